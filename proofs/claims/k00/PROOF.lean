import PyProof.Rows.All
import Wide.All
import OpenK.AllK
import Wide.FinOn
import HandS.ForMost
import HandS.IsInst
import HandS.Lambda
import HandS.NestedK
import HandS.EndTab
import HandS.Head0
import HandS.Head1
import HandS.Head2
import HandS.HeadEnd
import HandS.HeadHook1
import HandS.HeadHook2
import HandS.HeadHook3
import HandS.HeadHook4
import HandS.HeadWalk
import HandS.SetBool
import HandS.Strs
import HandS.SetFor
import HandS.ForExc
import HandS.ExcIs
import HandS.RaiseMore
import HandS.FStr
import KE.GoesMore
import PyProof.Draws
import PyProof.EnumMake
import HandS.Iter
import HandS.Gcd
import HandS.Conv
import PyProof.StrBlock2
import HandS.Replace
import PySem.Challenge.RW_turnsandthrows_k00_make_machine
set_option Elab.async false
set_option linter.all false
set_option maxRecDepth 100000
set_option maxHeartbeats 8000000
set_option Elab.async false
set_option linter.all false
set_option maxRecDepth 100000
namespace G
open PySem PySem.Spec PyProof.Rows L2

/-! ### readings, step by step -/
section
variable {σ : L2.St} {H : Hp} {Q : VK} {QB : Bool → Hp → Prop} {QA : List V → Hp → Prop} {D : Ends} {K : PySem.W.Frag} {te ta tb : TE} {t u : TS} {c c2 : TT} {i : Nat} {v x y : V}
theorem r_seq (h : t { D with nx := u D } σ H) : tSeq t u D σ H := h
theorem r_set (h : te σ H fun x H1 => D.nx (σ.set i (some x)) H1) : tAsg te (gName i) D σ H := h
theorem r_asg {g : TG} (h : te σ H fun x H1 => g x σ H1 D.nx) : tAsg te g D σ H := h
theorem r_drop (h : te σ H fun _ H1 => D.nx σ H1) : tDrop te D σ H := h
theorem r_ret (h : te σ H D.rt) : tRet te D σ H := h
theorem r_retN (h : D.rt .non H) : tRetN D σ H := h
theorem r_next (h : D.nx σ H) : tNext D σ H := h
theorem r_break (h : D.bk σ H) : tBreak D σ H := h
theorem r_cont (h : D.ct σ H) : tCont D σ H := h
theorem r_yes (h : QB true H) : tYes σ H QB := h
theorem r_if (h : c σ H fun b H1 => if b = true then t D σ H1 else u D σ H1) : tIfS c t u D σ H := h
theorem r_ifx (h : c σ H fun d H1 => if d = true then ta σ H1 Q else tb σ H1 Q) : tIf c ta tb σ H Q := h
theorem r_var (h : σ[i]? = some (some v)) (q : Q v H) : tVar i σ H Q := ⟨v, h, q⟩
theorem r_c (q : Q v H) : tC v σ H Q := q
theorem r_op {r : R2} (h : ta σ H fun x H1 => tb σ H1 fun y H2 => r x y H2 Q) : tOp r ta tb σ H Q := h
theorem r_un {r : V → Hp → VK → Prop} (h : ta σ H fun x H1 => r x H1 Q) : tUn r ta σ H Q := h
theorem r_cb {r : List V → Hp → VK → Prop} {t : TA} (h : t σ H fun vs H1 => r vs H1 Q) : tCB r t σ H Q := h
theorem r_cons {tr : TA} (h : te σ H fun x H1 => tr σ H1 fun xs H2 => QA (x :: xs) H2) : tCons te tr σ H QA := h
theorem r_nil (h : QA [] H) : tNil σ H QA := h
theorem r_call {sp : Sp} {dvs : List V} {E : XK} {t : TA} (h : t σ H fun vs H1 => sp (vs ++ dvs) H1 Q E) : tCall sp dvs E t σ H Q := h
theorem r_test (h : te σ H fun x H' => ∃ k, x = .bl k ∧ QB k H') : tTest te σ H QB := h
theorem r_tb (h : te σ H fun x H' => ∃ k, x = .bl k ∧ QB k H') : tB te σ H QB := h
theorem r_bl {b : Bool} {C : Bool → Prop} (h : C b) : ∃ k, V.bl b = .bl k ∧ C k := ⟨b, rfl, h⟩
theorem r_and (h : c σ H fun b H1 => if b = true then c2 σ H1 QB else QB false H1) : tAnd c c2 σ H QB := h
theorem r_or (h : c σ H fun b H1 => if b = true then QB true H1 else c2 σ H1 QB) : tOr c c2 σ H QB := h
theorem r_not (h : c σ H fun b H1 => QB (!b) H1) : tNot c σ H QB := h
theorem r_andV (h : ta σ H fun x H1 => ∃ c, x = .bl c ∧ if c = true then tb σ H1 Q else Q (.bl false) H1) : tAndV ta tb σ H Q := h
theorem r_orV (h : ta σ H fun x H1 => ∃ c, x = .bl c ∧ if c = true then Q (.bl true) H1 else tb σ H1 Q) : tOrV ta tb σ H Q := h
theorem r_notV (h : ta σ H fun x H1 => ∃ c, x = .bl c ∧ Q (.bl (!c)) H1) : tNotV ta σ H Q := h
theorem r_tup {t : TA} (h : t σ H fun xs H1 => xs.length ≤ sizeLine ∧ ∀ p, H1 p = none → Q (.ref p) (upd H1 p (.tup xs))) : tTup t σ H Q := h
theorem r_lst {t : TA} (h : t σ H fun xs H1 => xs.length ≤ sizeLine ∧ ∀ p, H1 p = none → Q (.ref p) (upd H1 p (.lst xs))) : tLst t σ H Q := h
theorem r_I0 {g : Int → Int → V} {i j : Int} (h : Q (g i j) H) : rI0 g (.int i) (.int j) H Q := ⟨i, j, rfl, rfl, h⟩
theorem r_I {C : Int → Int → Prop} {g : Int → Int → V} {i j : Int} (hc : C i j) (h : Q (g i j) H) : rI C g (.int i) (.int j) H Q := ⟨i, j, rfl, rfl, hc, h⟩
theorem r_U {g : Int → V} {i : Int} (h : Q (g i) H) : rU g (.int i) H Q := ⟨i, rfl, h⟩
theorem r_eqI {i j : Int} (h : Q (.bl (decide (i = j))) H) : rEq (.int i) (.int j) H Q := by
  refine ⟨rfl, ?_⟩
  have e : decide (V.int i = V.int j) = decide (i = j) := by simp
  rw [e]; exact h
theorem r_neI {i j : Int} (h : Q (.bl (!decide (i = j))) H) : rNe (.int i) (.int j) H Q := by
  refine ⟨rfl, ?_⟩
  have e : decide (V.int i = V.int j) = decide (i = j) := by simp
  rw [e]; exact h
theorem r_eqS {i j : Str} (h : Q (.bl (decide (i = j))) H) : rEq (.str i) (.str j) H Q := by
  refine ⟨rfl, ?_⟩
  have e : decide (V.str i = V.str j) = decide (i = j) := by simp
  rw [e]; exact h
theorem r_neS {i j : Str} (h : Q (.bl (!decide (i = j))) H) : rNe (.str i) (.str j) H Q := by
  refine ⟨rfl, ?_⟩
  have e : decide (V.str i = V.str j) = decide (i = j) := by simp
  rw [e]; exact h
theorem r_eqB {i j : Bool} (h : Q (.bl (decide (i = j))) H) : rEq (.bl i) (.bl j) H Q := by
  refine ⟨rfl, ?_⟩
  have e : decide (V.bl i = V.bl j) = decide (i = j) := by simp
  rw [e]; exact h
theorem r_neB {i j : Bool} (h : Q (.bl (!decide (i = j))) H) : rNe (.bl i) (.bl j) H Q := by
  refine ⟨rfl, ?_⟩
  have e : decide (V.bl i = V.bl j) = decide (i = j) := by simp
  rw [e]; exact h
theorem r_iteD {p A B : Prop} [Decidable p] (h1 : p → A) (h2 : ¬ p → B) : if decide p = true then A else B := ite2 (fun e => h1 (of_decide_eq_true e)) fun e => h2 fun q => e (decide_eq_true q)
theorem r_iteN {p A B : Prop} [Decidable p] (h1 : ¬ p → A) (h2 : p → B) : if (!decide p) = true then A else B := by
  by_cases h : p
  · rw [decide_eq_true h]; exact iteF (h2 h)
  · rw [decide_eq_false h]; exact iteT (h1 h)
theorem r_ixL {p : Addr} {xs : List V} {i : Int} (h : SqL K H p xs) (a : atI xs i = some v) (q : Q v H) : rIxL K (.ref p) (.int i) H Q := ⟨p, xs, i, v, rfl, rfl, h, a, q⟩
theorem r_ixT {p : Addr} {xs : List V} {i : Int} (h : SqT K H p xs) (a : atI xs i = some v) (q : Q v H) : rIxT K (.ref p) (.int i) H Q := ⟨p, xs, i, v, rfl, rfl, h, a, q⟩
theorem r_ixS {z : Str} {i : Int} {c : Nat} (hz : z.length ≤ sizeLine) (a : atI z.cps.toList i = some c) (q : Q (.str ⟨#[c]⟩) H) : rIxS (.str z) (.int i) H Q := ⟨z, i, c, rfl, rfl, hz, a, q⟩
/-! named readings for what the layer says by a bare fun -/
def rInt1 : List V → Hp → VK → Prop := fun xs H Q => (∃ i, xs = [.int i] ∧ Q (.int i) H) ∨ ∃ k, xs = [.bl k] ∧ Q (.int (if k then 1 else 0)) H
theorem call_int1' {X : Cx} : CallR X (.type "int") rInt1 := call_int1
theorem r_int1 {i : Int} (q : Q (.int i) H) : rInt1 [.int i] H Q := .inl ⟨i, rfl, q⟩
def rLenQ (K : PySem.W.Frag) : List V → Hp → VK → Prop := fun xs H Q => ∃ p ys, xs = [.ref p] ∧ (SqL K H p ys ∨ SqT K H p ys) ∧ Q (.int ys.length) H
theorem call_lenQ {X : Cx} : CallR X (.builtin "len") (rLenQ X.K) := call_len_seq
theorem r_lenL {p : Addr} {ys : List V} (h : SqL K H p ys) (q : Q (.int ys.length) H) : rLenQ K [.ref p] H Q := ⟨p, ys, rfl, .inl h, q⟩
theorem r_lenT {p : Addr} {ys : List V} (h : SqT K H p ys) (q : Q (.int ys.length) H) : rLenQ K [.ref p] H Q := ⟨p, ys, rfl, .inr h, q⟩
def rLenS1 : List V → Hp → VK → Prop := fun xs H Q => ∃ z, xs = [.str z] ∧ z.length ≤ sizeLine ∧ Q (.int z.length) H
theorem call_lenS1 {X : Cx} : CallR X (.builtin "len") rLenS1 := call_len_str
theorem r_lenS {z : Str} (h : z.length ≤ sizeLine) (q : Q (.int z.length) H) : rLenS1 [.str z] H Q := ⟨z, rfl, h, q⟩
def rAddS1 : R2 := fun x y H Q => ∃ i j, x = .str i ∧ y = .str j ∧ i.length + j.length ≤ sizeLine ∧ Q (.str (i ++ j)) H
theorem op_addS {X : Cx} : OpR X (binaryOp .Add) rAddS1 := op_add_str
theorem r_addS {i j : Str} (h : i.length + j.length ≤ sizeLine) (q : Q (.str (i ++ j)) H) : rAddS1 (.str i) (.str j) H Q := ⟨i, j, rfl, rfl, h, q⟩
def rIsN1 : R2 := fun x y H Q => y = .non ∧ Q (.bl (decide (x = .non))) H
def rNotN1 : R2 := fun x y H Q => y = .non ∧ Q (.bl (!decide (x = .non))) H
theorem op_isN1 {X : Cx} : OpR X (compareOp .Is) rIsN1 := op_isN
theorem op_notN1 {X : Cx} : OpR X (compareOp .IsNot) rNotN1 := op_notN
theorem r_isN (q : Q (.bl (decide (x = .non))) H) : rIsN1 x .non H Q := ⟨rfl, q⟩
theorem r_notN (q : Q (.bl (!decide (x = .non))) H) : rNotN1 x .non H Q := ⟨rfl, q⟩
def rTupOf (K : PySem.W.Frag) : List V → Hp → VK → Prop := fun xs H Q => ∃ p ys, xs = [.ref p] ∧ ((SqL K H p ys ∧ ∀ l, H l = none → Q (.ref l) (upd H l (.tup ys))) ∨ (SqT K H p ys ∧ Q (.ref p) H))
theorem call_tupOf {X : Cx} : CallR X (.type "tuple") (rTupOf X.K) := call_tuple_of
theorem r_tupL {p : Addr} {ys : List V} (h : SqL K H p ys) (q : ∀ l, H l = none → Q (.ref l) (upd H l (.tup ys))) : rTupOf K [.ref p] H Q := ⟨p, ys, rfl, .inl ⟨h, q⟩⟩
def rLstOf (K : PySem.W.Frag) : List V → Hp → VK → Prop := fun xs H Q => ∃ p ys, xs = [.ref p] ∧ (SqL K H p ys ∨ SqT K H p ys) ∧ ∀ l, H l = none → Q (.ref l) (upd H l (.lst ys))
theorem call_lstOf {X : Cx} : CallR X (.type "list") (rLstOf X.K) := call_list_of
theorem r_lstL {p : Addr} {ys : List V} (h : SqL K H p ys) (q : ∀ l, H l = none → Q (.ref l) (upd H l (.lst ys))) : rLstOf K [.ref p] H Q := ⟨p, ys, rfl, .inl h, q⟩
theorem r_lstT {p : Addr} {ys : List V} (h : SqT K H p ys) (q : ∀ l, H l = none → Q (.ref l) (upd H l (.lst ys))) : rLstOf K [.ref p] H Q := ⟨p, ys, rfl, .inr h, q⟩
theorem r_cat {l b : Addr} {xs zs : List V} (h1 : H l = some (.lst xs)) (h2 : H b = some (.lst zs)) (hl : xs.length + zs.length ≤ sizeLine) (q : ∀ p, H p = none → Q (.ref p) (upd H p (.lst (xs ++ zs)))) : rCat (.ref l) (.ref b) H Q := ⟨l, b, xs, zs, rfl, rfl, h1, h2, hl, q⟩
theorem r_append {l : Addr} {xs : List V} (h1 : H l = some (.lst xs)) (hl : xs.length < sizeLine) (q : Q .non (upd H l (.lst (xs ++ [y])))) : rAppend (.ref l) [y] H Q := ⟨l, xs, y, rfl, rfl, h1, hl, q⟩
theorem r_extend {l b : Addr} {xs zs : List V} (h1 : H l = some (.lst xs)) (h2 : H b = some (.lst zs)) (hl : xs.length + zs.length ≤ sizeLine) (q : Q .non (upd H l (.lst (xs ++ zs)))) : rExtend (.ref l) [.ref b] H Q := ⟨l, b, xs, zs, rfl, rfl, h1, h2, hl, q⟩
theorem r_bmL {r : V → List V → Hp → VK → Prop} {to : TE} {t : TA} (h : to σ H fun x H1 => tyV K "list" x H1 ∧ t σ H1 fun xs H2 => r x xs H2 Q) : tBM K "list" r to t σ H Q := h
theorem ty_l {p : Addr} {xs : List V} (h : SqL K H p xs) : tyV K "list" (.ref p) H := .inl ⟨rfl, _, h⟩
theorem r_slS {z : Str} {lo hi : Option Int} (h : z.length ≤ sizeLine) (q : Q (.str (cutS z lo hi)) H) : rSlS (.str z) lo hi H Q := ⟨z, rfl, h, q⟩
theorem r_slL {p : Addr} {xs : List V} {lo hi : Option Int} (h : SqL K H p xs) (q : ∀ l, H l = none → Q (.ref l) (upd H l (.lst (cutV xs lo hi)))) : rSlL K (.ref p) lo hi H Q := ⟨p, xs, rfl, h, q⟩
theorem r_sl {r : V → Option Int → Option Int → Hp → VK → Prop} {tl th : TO} (h : te σ H fun x H1 => tl σ H1 fun l H2 => th σ H2 fun u H3 => r x l u H3 Q) : tSl r te tl th σ H Q := h
theorem r_noPart {Qo : Option Int → Hp → Prop} (q : Qo none H) : tNoPart σ H Qo := q
theorem r_part {Qo : Option Int → Hp → Prop} (h : te σ H fun x H1 => ∃ i, x = .int i ∧ Qo (some i) H1) : tPart te σ H Qo := h
theorem r_pint {j : Int} {C : Int → Prop} (h : C j) : ∃ i, V.int j = .int i ∧ C i := ⟨j, rfl, h⟩
theorem r_isi {t u : Value} {b : Bool} {cl : V} (k : ClsV cl u) (ty : TyX K H x t) (e : PySem.W.kitOne K t u = some b) (q : Q (.bl b) H) : rIsi K [x, cl] H Q := ⟨x, cl, t, u, b, rfl, k, ty, e, q⟩
theorem r_rng1 {ta : TA} {R : It → Hp → Prop} (h : ta σ H fun vs H1 => ∃ j : Int, vs = [.int j] ∧ -(2 ^ 62) ≤ j ∧ j < 2 ^ 62 ∧ R (Itr 0 j.toNat) H1) : iRng1 ta σ H R := h
theorem r_rng1' {j : Int} {C : Int → Prop} (h1 : -(2 ^ 62) ≤ j) (h2 : j < 2 ^ 62) (h : C j) : ∃ j' : Int, [V.int j] = [.int j'] ∧ -(2 ^ 62) ≤ j' ∧ j' < 2 ^ 62 ∧ C j' := ⟨j, rfl, h1, h2, h⟩
end

/-! ### what was tracked stands -/
theorem same_t {K : PySem.W.Frag} {H H' : Hp} {a : Addr} {xs : List V} (e : Same H H') (h : SqT K H a xs) : SqT K H' a xs := by
  rcases h with (h | ⟨o, h⟩) | h
  · exact .inl (.inl (e _ _ h))
  · exact .inl (.inr ⟨o, e _ _ h⟩)
  · exact .inr h
theorem same_new {H : Hp} {p : Addr} {o : HO} (h : H p = none) : Same H (upd H p o) := fun b x e => by
  rw [upd_ne (ne_of_none e h)]
  exact e
/-- an object that H did not know was changed -/
theorem same_mut {H H' : Hp} {p : Addr} {o : HO} (e : Same H H') (h : H p = none) : Same H (upd H' p o) := fun a u ha => by
  rw [upd_ne (ne_of_none ha h)]
  exact e a u ha
mutual
theorem dp_same {K : PySem.W.Frag} {H H' : Hp} (e : Same H H') : ∀ (d : PyData) (v : V), Dp K H v d → Dp K H' v d
  | .none, _, h => by cases h; exact .non
  | .bool b, _, h => by cases h; exact .bl b
  | .int i, _, h => by cases h; exact .int i
  | .str x, _, h => by cases h; exact .str x
  | .list ds, _, h => by
    cases h with
    | lst hs ha => exact .lst (e.seq hs) (dpAll_same e ds _ ha)
  | .tuple ds, _, h => by
    cases h with
    | tup hs ha => exact .tup (same_t e hs) (dpAll_same e ds _ ha)
  | .dict _, _, h => by cases h
theorem dpAll_same {K : PySem.W.Frag} {H H' : Hp} (e : Same H H') : ∀ (ds : List PyData) (vs : List V), DpAll K H vs ds → DpAll K H' vs ds
  | [], _, h => by cases h; exact .nil
  | d :: ds, _, h => by
    cases h with
    | cons h1 h2 => exact .cons (dp_same e d _ h1) (dpAll_same e ds _ h2)
end
theorem dpAll_len {K : PySem.W.Frag} {H : Hp} : ∀ {vs : List V} {ds : List PyData}, DpAll K H vs ds → vs.length = ds.length
  | _, _, .nil => rfl
  | _, _, .cons _ t => congrArg (· + 1) (dpAll_len t)
theorem dpAll_get {K : PySem.W.Frag} {H : Hp} : ∀ {vs : List V} {ds : List PyData} {i : Nat} {d : PyData}, DpAll K H vs ds → ds[i]? = some d → ∃ v, vs[i]? = some v ∧ Dp K H v d
  | _, _, _, _, .nil, e => by simp at e
  | _, _, 0, _, .cons h _, e => by simp at e; subst e; exact ⟨_, rfl, h⟩
  | _, _, i + 1, d, .cons _ t, e => by
    obtain ⟨v, h1, h2⟩ := dpAll_get (i := i) (d := d) t (by simpa using e)
    exact ⟨v, by simpa using h1, h2⟩
theorem dpAll_map {K : PySem.W.Frag} {H : Hp} {α : Type} {f : α → V} {g : α → PyData} (h : ∀ x, Dp K H (f x) (g x)) : ∀ xs : List α, DpAll K H (xs.map f) (xs.map g)
  | [] => .nil
  | x :: xs => .cons (h x) (dpAll_map h xs)
/-- the type of what bears data -/
theorem tyx_sqL {K : PySem.W.Frag} {H : Hp} {a : Addr} {xs : List V} (h : SqL K H a xs) : TyX K H (.ref a) (.type "list") := by
  rcases h with (h | ⟨o, h⟩) | ⟨o, its, n, hk, hc, _⟩
  · exact .base (.lst h)
  · exact .base (.frz h)
  · exact .kList hk hc
theorem tyx_sqT {K : PySem.W.Frag} {H : Hp} {a : Addr} {xs : List V} (h : SqT K H a xs) : TyX K H (.ref a) (.type "tuple") := by
  rcases h with (h | ⟨o, h⟩) | ⟨o, its, n, hk, hc, _⟩
  · exact .base (.tup h)
  · exact .fTuple h
  · exact .kTuple hk hc

/-! ### walks over a text's signs -/
theorem for_str {x : Str} {g : TG} {tb : TS} {D : Ends} {σ : L2.St} {H : Hp} (Pv : Nat → L2.St → Hp → Prop) (h0 : Pv 0 σ H)
    (hs : ∀ i c σ H, x.cps.toList[i]? = some c → Pv i σ H → g (.str ⟨#[c]⟩) σ H fun σ2 H2 => tb { D with nx := Pv (i + 1), ct := Pv (i + 1), bk := D.nx } σ2 H2) (hd : ∀ σ H, Pv x.cps.size σ H → D.nx σ H) :
    ∃ W : Nat → Nat → L2.St → Hp → Prop, (∃ m, W 0 m σ H) ∧ ∀ i m σ H, W i m σ H →
      ((Its x).stop i H ∧ D.nx σ H) ∨ ((Its x).go i H ∧ ∃ N : L2.St → Hp → Prop, (∀ σ' H', N σ' H' → ∃ m', m' < m ∧ W (i + 1) m' σ' H') ∧ ∀ x' H', (Its x).yld i H x' H' → g x' σ H' fun σ2 H2 => tb { D with nx := N, ct := N, bk := D.nx } σ2 H2) := by
  refine ⟨fun i m σ H => m = x.cps.size - i ∧ i ≤ x.cps.size ∧ Pv i σ H, ⟨x.cps.size, by simp, Nat.zero_le _, h0⟩, ?_⟩
  rintro i m σ H ⟨rfl, hi, p⟩
  by_cases hlt : i < x.cps.size
  · refine .inr ⟨hlt, Pv (i + 1), fun σ' H' p' => ⟨x.cps.size - (i + 1), by omega, rfl, hlt, p'⟩, fun x' H' y => ?_⟩
    obtain ⟨e, c, hc, rfl⟩ := y
    subst e
    exact hs i c σ _ (by rw [Array.getElem?_toList]; exact hc) p
  · have e : i = x.cps.size := by omega
    subst e
    exact .inl ⟨Nat.le_refl _, hd σ H p⟩
end G
namespace G
open PySem PySem.Spec PyProof.Rows L2
/-! isinstance of built-in kinds -/
section
variable {K : PySem.W.Frag}
theorem kt_NoneType_list : PySem.W.kitOne K (.type "NoneType") (.type "list") = some false := kit_ty (by decide +kernel)
theorem kt_NoneType_tuple : PySem.W.kitOne K (.type "NoneType") (.type "tuple") = some false := kit_ty (by decide +kernel)
theorem kt_NoneType_bool : PySem.W.kitOne K (.type "NoneType") (.type "bool") = some false := kit_ty (by decide +kernel)
theorem kt_NoneType_int : PySem.W.kitOne K (.type "NoneType") (.type "int") = some false := kit_ty (by decide +kernel)
theorem kt_NoneType_str : PySem.W.kitOne K (.type "NoneType") (.type "str") = some false := kit_ty (by decide +kernel)
theorem kt_bool_list : PySem.W.kitOne K (.type "bool") (.type "list") = some false := kit_ty (by decide +kernel)
theorem kt_bool_tuple : PySem.W.kitOne K (.type "bool") (.type "tuple") = some false := kit_ty (by decide +kernel)
theorem kt_bool_bool : PySem.W.kitOne K (.type "bool") (.type "bool") = some true := kit_ty (by decide +kernel)
theorem kt_bool_int : PySem.W.kitOne K (.type "bool") (.type "int") = some true := kit_ty (by decide +kernel)
theorem kt_bool_str : PySem.W.kitOne K (.type "bool") (.type "str") = some false := kit_ty (by decide +kernel)
theorem kt_int_list : PySem.W.kitOne K (.type "int") (.type "list") = some false := kit_ty (by decide +kernel)
theorem kt_int_tuple : PySem.W.kitOne K (.type "int") (.type "tuple") = some false := kit_ty (by decide +kernel)
theorem kt_int_bool : PySem.W.kitOne K (.type "int") (.type "bool") = some false := kit_ty (by decide +kernel)
theorem kt_int_int : PySem.W.kitOne K (.type "int") (.type "int") = some true := kit_ty (by decide +kernel)
theorem kt_int_str : PySem.W.kitOne K (.type "int") (.type "str") = some false := kit_ty (by decide +kernel)
theorem kt_str_list : PySem.W.kitOne K (.type "str") (.type "list") = some false := kit_ty (by decide +kernel)
theorem kt_str_tuple : PySem.W.kitOne K (.type "str") (.type "tuple") = some false := kit_ty (by decide +kernel)
theorem kt_str_bool : PySem.W.kitOne K (.type "str") (.type "bool") = some false := kit_ty (by decide +kernel)
theorem kt_str_int : PySem.W.kitOne K (.type "str") (.type "int") = some false := kit_ty (by decide +kernel)
theorem kt_str_str : PySem.W.kitOne K (.type "str") (.type "str") = some true := kit_ty (by decide +kernel)
theorem kt_list_list : PySem.W.kitOne K (.type "list") (.type "list") = some true := kit_ty (by decide +kernel)
theorem kt_list_tuple : PySem.W.kitOne K (.type "list") (.type "tuple") = some false := kit_ty (by decide +kernel)
theorem kt_list_bool : PySem.W.kitOne K (.type "list") (.type "bool") = some false := kit_ty (by decide +kernel)
theorem kt_list_int : PySem.W.kitOne K (.type "list") (.type "int") = some false := kit_ty (by decide +kernel)
theorem kt_list_str : PySem.W.kitOne K (.type "list") (.type "str") = some false := kit_ty (by decide +kernel)
theorem kt_tuple_list : PySem.W.kitOne K (.type "tuple") (.type "list") = some false := kit_ty (by decide +kernel)
theorem kt_tuple_tuple : PySem.W.kitOne K (.type "tuple") (.type "tuple") = some true := kit_ty (by decide +kernel)
theorem kt_tuple_bool : PySem.W.kitOne K (.type "tuple") (.type "bool") = some false := kit_ty (by decide +kernel)
theorem kt_tuple_int : PySem.W.kitOne K (.type "tuple") (.type "int") = some false := kit_ty (by decide +kernel)
theorem kt_tuple_str : PySem.W.kitOne K (.type "tuple") (.type "str") = some false := kit_ty (by decide +kernel)
end
section
variable {K : PySem.W.Frag} {H : Hp} {Q : VK} {v : V}
theorem r_xL {p : Addr} {xs : List V} {i : Int} (h : SqL K H p xs) (a : atI xs i = some v) (q : Q v H) : rIx K (.ref p) (.int i) H Q := .inl ⟨p, xs, i, v, rfl, rfl, h, a, q⟩
theorem r_xT {p : Addr} {xs : List V} {i : Int} (h : SqT K H p xs) (a : atI xs i = some v) (q : Q v H) : rIx K (.ref p) (.int i) H Q := .inr (.inl ⟨p, xs, i, v, rfl, rfl, h, a, q⟩)
end
/-! a def of which nothing is promised -/
theorem fn_false {P : Program} {w : World} {K : PySem.W.Frag} {mg : Str → Option Value} {base : Heap} {CX : CXT} {k : Nat} {f : Addr} {fd : FuncData} {ps : List Str} : FnOk P w K mg base CX k f fd ps (fun _ _ _ _ => False) := by
  constructor
  · intros; contradiction
  · intros; contradiction
theorem fn_vac {P : Program} {w : World} {K : PySem.W.Frag} {mg : Str → Option Value} {base : Heap} {CX : CXT} {k : Nat} {f : Addr} {fd : FuncData} {ps : List Str} {sp : Sp} (h : ∀ vs H Q E, sp vs H Q E → False) : FnOk P w K mg base CX k f fd ps sp := by
  have e : sp = fun _ _ _ _ => False := by
    funext vs H Q E
    exact propext ⟨h vs H Q E, False.elim⟩
  rw [e]
  exact fn_false

/-! ### promises of the law's helpers -/
def cellV (ns : List Int) (k : Int) : Int := ns.getD k.toNat 0
def spCellG (K : PySem.W.Frag) : Sp := fun vs H Q _ => ∃ (l : Addr) (ns : List Int) (k : Int), vs = [.ref l, .int k] ∧ SqL K H l (ns.map V.int) ∧ 0 ≤ k ∧ Q (.int (cellV ns k)) H
/-- data of a depth below n, of bounded lengths -/
def fits : Nat → PyData → Prop
  | 0, _ => False
  | n + 1, .list ds => ds.length ≤ sizeLine ∧ ∀ d ∈ ds, fits n d
  | n + 1, .tuple ds => ds.length ≤ sizeLine ∧ ∀ d ∈ ds, fits n d
  | _ + 1, .dict _ => False
  | _ + 1, .none => True
  | _ + 1, .bool _ => True
  | _ + 1, .int _ => True
  | _ + 1, .str _ => True
def spSame (K : PySem.W.Frag) (n : Nat) : Sp := fun vs H Q _ => ∃ (x y : V) (d : PyData), vs = [x, y] ∧ Dp K H x d ∧ Dp K H y d ∧ fits n d ∧ Q (.bl true) H
/-- count new numbers from 0 to 999 -/
def spNums (K : PySem.W.Frag) : Sp := fun vs H Q _ => ∃ (c : Int) (n : Nat), vs = [.int c, .int (n : Int)] ∧ n ≤ 10000 ∧
  ∀ (H' : Hp) (p : Addr) (ns : List Int), Same H H' → H p = none → H' p = some (.lst (ns.map V.int)) → ns.length = n → (∀ z ∈ ns, 0 ≤ z ∧ z < 1000) → Q (.ref p) H'
theorem emod_rng (a : Int) {b : Int} (h : 0 < b) : 0 ≤ a % b ∧ a % b < b := ⟨Int.emod_nonneg a (by omega), Int.emod_lt_of_pos a h⟩
/-! texts as lists of codes -/
abbrev sV (l : List Nat) : V := .str ⟨l.toArray⟩
theorem str_app (a b : List Nat) : (⟨a.toArray⟩ : Str) ++ (⟨b.toArray⟩ : Str) = ⟨(a ++ b).toArray⟩ := congrArg Str.mk (show a.toArray ++ b.toArray = (a ++ b).toArray by simp)
theorem str_len (a : List Nat) : (⟨a.toArray⟩ : Str).length = a.length := by simp [Str.length]
/-- a comprehension over a text's signs -/
theorem lc_str {x : Str} {g : TG} {tt : TT} {te : TE} {vs : List Nat} {σ : L2.St} {H1 : Hp} {D : Addr} {Qd : Hp → Prop} (Pv : Nat → Hp → Prop) (h0 : Pv 0 (upd H1 D (.lst [])))
    (hs : ∀ i c H, x.cps.toList[i]? = some c → Pv i H → g (.str ⟨#[c]⟩) (wipe σ vs) H fun σ2 H2 => wipe σ2 vs = wipe σ vs ∧ tt σ2 H2 fun b H3 =>
      if b = true then te σ2 H3 fun y H4 => ∃ acc, H4 D = some (.lst acc) ∧ acc.length < sizeLine ∧ Pv (i + 1) (upd H4 D (.lst (acc ++ [y]))) else Pv (i + 1) H3) (hd : ∀ H, Pv x.cps.size H → Qd H) :
    ∃ W : Nat → Nat → Hp → Prop, (∃ m, W 0 m (upd H1 D (.lst []))) ∧ ∀ i m H, W i m H →
      ((Its x).stop i H ∧ Qd H) ∨ ((Its x).go i H ∧ ∃ Nx : Hp → Prop, (∀ H', Nx H' → ∃ m', m' < m ∧ W (i + 1) m' H') ∧ ∀ x' H', (Its x).yld i H x' H' → g x' (wipe σ vs) H' fun σ2 H2 => wipe σ2 vs = wipe σ vs ∧ tt σ2 H2 fun b H3 =>
        if b = true then te σ2 H3 fun y H4 => ∃ acc, H4 D = some (.lst acc) ∧ acc.length < sizeLine ∧ Nx (upd H4 D (.lst (acc ++ [y]))) else Nx H3) := by
  refine ⟨fun i m H => m = x.cps.size - i ∧ i ≤ x.cps.size ∧ Pv i H, ⟨x.cps.size, by simp, Nat.zero_le _, h0⟩, ?_⟩
  rintro i m H ⟨rfl, hi, p⟩
  by_cases hlt : i < x.cps.size
  · refine .inr ⟨hlt, Pv (i + 1), fun H' p' => ⟨x.cps.size - (i + 1), by omega, rfl, hlt, p'⟩, fun x' H' y => ?_⟩
    obtain ⟨e, c, hc, rfl⟩ := y
    subst e
    exact hs i c _ (by rw [Array.getElem?_toList]; exact hc) p
  · have e : i = x.cps.size := by omega
    subst e
    exact .inl ⟨Nat.le_refl _, hd H p⟩
theorem cut_abcd {m : Nat} (h4 : m ≤ 4) : cutS (Str.ofString "abcd") none (some (m : Int)) = ⟨(List.take m [97, 98, 99, 100]).toArray⟩ := by
  match m, h4 with
  | 0, _ => decide +kernel
  | 1, _ => decide +kernel
  | 2, _ => decide +kernel
  | 3, _ => decide +kernel
  | 4, _ => decide +kernel
section
variable {σ : L2.St} {H : Hp} {Q : VK} {K : PySem.W.Frag} {te : TE} {R : It → Hp → Prop}
theorem r_gn {i : Nat} {v : V} {C : L2.St → Hp → Prop} (h : C (σ.set i (some v)) H) : gName i v σ H C := h
theorem iteNT {A B : Prop} (h : B) : if (!true) = true then A else B := iteF h
theorem iteNF {A B : Prop} (h : A) : if (!false) = true then A else B := iteT h
theorem r_fdiv {g : Int → Int → V} {i j : Int} (hc : 0 < j ∧ j < 1073741824) (h : Q (g i j) H) : rI CDiv g (.int i) (.int j) H Q := ⟨i, j, rfl, rfl, hc, h⟩
theorem r_mod {g : Int → Int → V} {i j : Int} (hc : 0 < j) (h : Q (g i j) H) : rI (fun _ j => 0 < j) g (.int i) (.int j) H Q := ⟨i, j, rfl, rfl, hc, h⟩
theorem r_mul {g : Int → Int → V} {i j : Int} (hc : (-(2 ^ 64) < i ∧ i < 2 ^ 64) ∨ (-(2 ^ 64) < j ∧ j < 2 ^ 64)) (h : Q (g i j) H) : rI CMul g (.int i) (.int j) H Q := ⟨i, j, rfl, rfl, hc, h⟩
theorem r_pow {g : Int → Int → V} {i j : Int} (hc : 0 ≤ j ∧ j ≤ 1000000 ∧ i.natAbs < 2 ^ 64) (h : Q (g i j) H) : rI CPow g (.int i) (.int j) H Q := ⟨i, j, rfl, rfl, hc, h⟩
theorem r_iStr (h : te σ H fun v H1 => ∃ x, v = .str x ∧ R (Its x) H1) : iStr te σ H R := h
theorem r_iList (h : te σ H fun x H1 => ∃ a, x = .ref a ∧ (∃ xs, SqL K H1 a xs) ∧ R (Itl K a) H1) : iList K te σ H R := h
theorem r_iTup (h : te σ H fun x H1 => ∃ a, x = .ref a ∧ (∃ xs, SqT K H1 a xs) ∧ R (Itt K a) H1) : iTup K te σ H R := h
theorem r_str1 {z : Str} {C : Str → Prop} (h : C z) : ∃ x, V.str z = .str x ∧ C x := ⟨z, rfl, h⟩
theorem r_ref1 {p : Addr} {C : Addr → Prop} (h : C p) : ∃ a, V.ref p = .ref a ∧ C a := ⟨p, rfl, h⟩
end
/-! places in a text -/
def noE : Expr := .Name "" ⟨0, 0, 0, 0⟩
def noS : Stmt := .Pass ⟨0, 0, 0, 0⟩
def eArg (k : Nat) : Expr → Expr | .Call _ es _ _ => es.getD k noE | _ => noE
def eFun : Expr → Expr | .Call f _ _ _ => f | _ => noE
def eObj : Expr → Expr | .Attribute v _ _ => v | _ => noE
def eElt : Expr → Expr | .ListComp e _ _ _ => e | .SetComp e _ _ _ => e | .GeneratorExp e _ _ _ => e | _ => noE
def eScope : Expr → Scope | .ListComp _ _ sc _ => sc | .SetComp _ _ sc _ => sc | .GeneratorExp _ _ sc _ => sc | _ => { kind := .function, names := [], isGenerator := false, isCoroutine := false }
def eIter (k : Nat) : Expr → Expr | .ListComp _ gs _ _ => (gs.map fun g => g.iter).getD k noE | _ => noE
def eIf (k j : Nat) : Expr → Expr | .ListComp _ gs _ _ => ((gs.map fun g => g.ifs).getD k []).getD j noE | _ => noE
def eLeft : Expr → Expr | .BinOp a _ _ _ => a | .Compare a _ _ _ => a | .Subscript a _ _ => a | .UnaryOp _ a _ => a | _ => noE
def eRight : Expr → Expr | .BinOp _ _ b _ => b | .Subscript _ b _ => b | _ => noE
def eCmp (k : Nat) : Expr → Expr | .Compare _ _ bs _ => bs.getD k noE | _ => noE
def eVal (k : Nat) : Expr → Expr | .BoolOp _ es _ => es.getD k noE | .List es _ => es.getD k noE | .Tuple es _ _ => es.getD k noE | _ => noE
def sE : Stmt → Expr | .Assign _ e _ => e | .AugAssign _ _ e _ => e | .Return (some e) _ => e | .Expr e _ => e | .If c _ _ _ => c | .While c _ _ _ => c | .For _ it _ _ _ => it | _ => noE
def sIn (k : Nat) : Stmt → Stmt | .FunctionDef _ _ b _ _ _ _ _ _ _ => b.getD k noS | .If _ b _ _ => b.getD k noS | .For _ _ b _ _ => b.getD k noS | .While _ b _ _ => b.getD k noS | _ => noS
def sElse (k : Nat) : Stmt → Stmt | .If _ _ b _ => b.getD k noS | _ => noS
section
variable {σ : L2.St} {H : Hp} {Q : VK} {K : PySem.W.Frag} {te : TE}
def rIdxS : V → List V → Hp → VK → Prop := fun x xs H Q => ∃ a b i rest, x = .str a ∧ xs = [.str b] ∧ Builtin.Str.occurrences a b 0 a.length 1 = i :: rest ∧ Q (.int (i : Nat)) H
theorem mt_indexS {X : Cx} : MtR X "str.index" rIdxS := mt_sindex
theorem occ_abcd {j c : Nat} (h : [97, 98, 99, 100][j]? = some c) : Builtin.Str.occurrences (Str.ofString "abcd") ⟨#[c]⟩ 0 (Str.ofString "abcd").length 1 = [j] := by
  match j, h with
  | 0, h => cases Option.some.inj h; decide +kernel
  | 1, h => cases Option.some.inj h; decide +kernel
  | 2, h => cases Option.some.inj h; decide +kernel
  | 3, h => cases Option.some.inj h; decide +kernel
  | n + 4, h => simp at h
theorem r_idxS {j c : Nat} (h : [97, 98, 99, 100][j]? = some c) (q : Q (.int (j : Int)) H) : rIdxS (.str (Str.ofString "abcd")) [.str ⟨#[c]⟩] H Q := ⟨_, _, j, [], rfl, rfl, occ_abcd h, q⟩
def rJoinS (K : PySem.W.Frag) : V → List V → Hp → VK → Prop := fun x xs H Q => ∃ a p, ∃ ys : List Str, x = .str a ∧ xs = [.ref p] ∧ (SqL K H p (ys.map V.str) ∨ SqT K H p (ys.map V.str)) ∧ (ys.map (·.length)).sum + ys.length * a.length ≤ 16777216 ∧ Q (.str (Txt.join a ys)) H
theorem mt_joinS {X : Cx} : MtR X "str.join" (rJoinS X.K) := mt_join
theorem r_bmS {T : String} {r : V → List V → Hp → VK → Prop} {to : TE} {t : TA} (h : to σ H fun x H1 => tyV K T x H1 ∧ t σ H1 fun xs H2 => r x xs H2 Q) : tBM K T r to t σ H Q := h
theorem foldl_app : ∀ (xs : List (Array Nat)) (acc : Array Nat), xs.foldl (· ++ ·) acc = acc ++ (xs.map Array.toList).flatten.toArray
  | [], acc => by simp
  | x :: xs, acc => by
    rw [List.foldl_cons, foldl_app xs (acc ++ x)]
    rw [List.map_cons, List.flatten_cons, Array.append_assoc]
    congr 1
    apply Array.ext'
    simp
theorem mul_txt (l : List Nat) (n : Nat) : Txt.mul ⟨l.toArray⟩ (n : Int) = ⟨((List.replicate n l).flatten).toArray⟩ := by
  unfold Txt.mul
  by_cases h1 : (n : Int) < 1
  · have e : n = 0 := by omega
    subst e
    rfl
  · rw [if_neg h1]
    by_cases h2 : ((n : Int) == 1 || (⟨l.toArray⟩ : Str).length == 0) = true
    · rw [if_pos h2]
      rcases Bool.or_eq_true_iff.mp h2 with e | e
      · have e' : n = 1 := by have := eq_of_beq e; omega
        subst e'
        simp
      · have e' : l = [] := by
          have e2 : l.toArray.size = 0 := eq_of_beq e
          rw [List.size_toArray] at e2
          exact List.length_eq_zero_iff.mp e2
        subst e'
        simp
    · rw [if_neg h2]
      congr 1
      rw [foldl_app]
      simp
def rRepS : R2 := fun x y H Q => ∃ (l : List Nat) (n : Nat), x = .str ⟨l.toArray⟩ ∧ y = .int (n : Int) ∧ l.length * n ≤ sizeLine ∧ n ≤ 1000000 ∧ Q (.str ⟨((List.replicate n l).flatten).toArray⟩) H
theorem op_repS {X : Cx} : OpR X (binaryOp .Mult) rRepS := by
  intro pins s σ H x y v u Q I rx ry h
  obtain ⟨l, n, rfl, rfl, hl, hn, q⟩ := h
  obtain ⟨t, rfl⟩ := rx
  obtain ⟨t2, rfl⟩ := ry
  refine SB.mul ⟨?_, fun h1 h2 => ?_, fun h1 h2 => ?_⟩ fun t' k => ⟨.str (Txt.mul ⟨l.toArray⟩ (n : Int)), H, I.tok k, ⟨t', rfl⟩, ?_⟩
  · rw [Bool.or_eq_false_iff]
    exact ⟨decide_eq_false (by omega), decide_eq_false (by omega)⟩
  · have hz : (sizeLine : Nat) = 16777216 := by decide
    rw [str_len]
    intro hc
    have hn1 : 1 ≤ n := by omega
    have hll : l.length ≤ 16777216 := by
      have : l.length * 1 ≤ l.length * n := Nat.mul_le_mul_left _ hn1
      omega
    have h3 : (1000000000 : Int) ≤ (2 ^ 63 - 1) / (n : Int) := by
      rw [Int.le_ediv_iff_mul_le (by omega)]
      omega
    omega
  · rw [str_len]
    have : (l.length * (n : Int).toNat) ≤ sizeLine := by rw [Int.toNat_natCast]; exact hl
    exact decide_eq_false (by omega)
  · rw [mul_txt]
    exact q
theorem r_lstRg1 {j : Int} (h0 : 0 ≤ j) (h1 : j ≤ 16777216) (q : ∀ p, H p = none → Q (.ref p) (upd H p (.lst (((List.range j.toNat).map fun i : Nat => (i : Int)).map V.int)))) (h : te σ H fun x H1 => x = .int j ∧ H1 = H) (mono : ∀ R R' : VK, (∀ v H, R v H → R' v H) → te σ H R → te σ H R') : tLstRg (tRg1 te) σ H Q := by
  refine mono _ _ (fun v H1 e => ?_) h
  obtain ⟨rfl, rfl⟩ := e
  refine ⟨j, rfl, RgOk.of_le (Int.le_refl _) h1 (by decide) h0, fun p hp => ?_⟩
  have e : rgV 0 j = ((List.range j.toNat).map fun i : Nat => (i : Int)).map V.int := by
    unfold rgV
    rw [List.map_map, show (j - 0) = j by omega]
    refine List.map_congr_left fun i _ => ?_
    show V.int (0 + (i : Int)) = V.int (i : Int)
    rw [Int.zero_add]
  rw [e]
  exact q p hp
end
/-! drawn numbers -/
def Dr (n : Nat) (c : Int) (ms : List Int) : Prop := ms.length = n ∧ ∀ z ∈ ms, 0 ≤ z ∧ z < c
theorem Dr.nil {c : Int} : Dr 0 c [] := ⟨rfl, fun _ h => nomatch h⟩
theorem Dr.app {n : Nat} {c z : Int} {ms : List Int} (h : Dr n c ms) (h0 : 0 ≤ z) (h1 : z < c) : Dr (n + 1) c (ms ++ [z]) := by
  refine ⟨by rw [List.length_append, h.1]; rfl, fun y hy => ?_⟩
  rcases List.mem_append.mp hy with hy | hy
  · exact h.2 y hy
  · rw [List.mem_singleton.mp hy]; exact ⟨h0, h1⟩
theorem Dr.set {n : Nat} {c z : Int} {ms : List Int} {j : Nat} (h : Dr n c ms) (h0 : 0 ≤ z) (h1 : z < c) : Dr n c (ms.set j z) := by
  refine ⟨by rw [List.length_set]; exact h.1, fun y hy => ?_⟩
  rcases List.mem_or_eq_of_mem_set hy with hy | hy
  · exact h.2 y hy
  · rw [hy]; exact ⟨h0, h1⟩
theorem Dr.getD {n : Nat} {c : Int} {ms : List Int} {j : Nat} (h : Dr n c ms) (hj : j < n) : 0 ≤ ms.getD j 0 ∧ ms.getD j 0 < c := by
  have hj' : j < ms.length := by rw [h.1]; exact hj
  rw [List.getD_eq_getElem?_getD, List.getElem?_eq_getElem hj']
  exact h.2 _ (List.getElem_mem hj')
theorem at_int {ns : List Int} {i : Int} (h0 : 0 ≤ i) (h1 : i < ns.length) : atI (ns.map V.int) i = some (.int (ns.getD i.toNat 0)) := by
  have hi : i.toNat < ns.length := by omega
  refine at_of (j := i.toNat) (by omega) ?_
  rw [List.getElem?_map, List.getD_eq_getElem?_getD, List.getElem?_eq_getElem hi]
  rfl
theorem ix_set {n : Nat} {i : Int} (h0 : 0 ≤ i) (h1 : i < n) : ixN n i = some i.toNat := by
  unfold ixN
  rw [if_pos h0, if_pos h1]
theorem r_setL {p : Addr} {xs : List V} {k : Int} {y : V} {H : Hp} {Q : Hp → Prop} (h : H p = some (.lst xs)) (h0 : 0 ≤ k) (h1 : k < xs.length) (q : Q (upd H p (.lst (xs.set k.toNat y)))) : rSetL (.ref p) (.int k) y H Q := ⟨p, xs, k, k.toNat, rfl, rfl, h, ix_set h0 h1, q⟩
theorem r_gsub {to ti : TE} {t : TSet} {v : V} {σ : L2.St} {H : Hp} {C : L2.St → Hp → Prop} (h : to σ H fun o H1 => ti σ H1 fun i H2 => t o i v H2 fun H3 => C σ H3) : gSub to ti t v σ H C := h
theorem map_set_int (ms : List Int) (j : Nat) (z : Int) : (ms.map V.int).set j (V.int z) = (ms.set j z).map V.int := by rw [List.map_set]
theorem rep_flat (z : Int) (n : Nat) : (List.replicate n [V.int z]).flatten = (List.replicate n z).map V.int := by
  induction n with
  | zero => rfl
  | succ n ih => rw [List.replicate_succ, List.flatten_cons, ih, List.replicate_succ]; rfl
theorem Dr.rep {n : Nat} {c z : Int} (h0 : 0 ≤ z) (h1 : z < c) : Dr n c (List.replicate n z) := ⟨List.length_replicate, fun y hy => by rw [(List.mem_replicate.mp hy).2]; exact ⟨h0, h1⟩⟩
theorem Dr.perm {n : Nat} {c : Int} {ms ms' : List Int} (h : Dr n c ms) (p : ms'.Perm ms) : Dr n c ms' := ⟨by rw [p.length_eq]; exact h.1, fun y hy => h.2 y (p.mem_iff.mp hy)⟩
theorem Dr.range (n : Nat) : Dr n n ((List.range n).map fun i : Nat => (i : Int)) := by
  refine ⟨by rw [List.length_map, List.length_range], fun y hy => ?_⟩
  obtain ⟨i, hi, rfl⟩ := List.mem_map.mp hy
  have := List.mem_range.mp hi
  exact ⟨by omega, by omega⟩
def spAction (K : PySem.W.Frag) : Sp := fun vs H Q _ => ∃ (p : Addr) (ns : List Int) (n : Nat), vs = [.ref p, .int (n : Int)] ∧ SqL K H p (ns.map V.int) ∧ 12 ≤ ns.length ∧ 1 ≤ n ∧ n ≤ 10 ∧
  ∀ (H' : Hp) (q : Addr) (ms : List Int), Same H H' → H q = none → H' q = some (.lst (ms.map V.int)) → Dr n n ms → Q (.ref q) H'
/-! the rules with the written part named -/
section
variable {X : Cx} {K : PySem.W.Frag}
theorem ix_listK (h : X.K = K) : IxR X (rIxL K) := h ▸ ix_list
theorem ix_tupK (h : X.K = K) : IxR X (rIxT K) := h ▸ ix_tup
theorem ix_seqK (h : X.K = K) : IxR X (rIx K) := h ▸ ix_seq
theorem call_lenQK (h : X.K = K) : CallR X (.builtin "len") (rLenQ K) := h ▸ call_lenQ
theorem call_tupOfK (h : X.K = K) : CallR X (.type "tuple") (rTupOf K) := h ▸ call_tupOf
theorem call_lstOfK (h : X.K = K) : CallR X (.type "list") (rLstOf K) := h ▸ call_lstOf
theorem call_isiK1 (h : X.K = K) : CallR X (.builtin "isinstance") (rIsi K) := h ▸ call_isi
theorem cr_sortedK (h : X.K = K) : CallR X (.builtin "sorted") (rSorted K) := h ▸ cr_sorted
theorem sl_listK (h : X.K = K) : SlR X (rSlL K) := h ▸ sl_list
theorem sl_tupK (h : X.K = K) : SlR X (rSlT K) := h ▸ sl_tup
theorem op_inK (h : X.K = K) : OpR X (compareOp .In) (rIn K false) := h ▸ op_in_seq
theorem op_notInK (h : X.K = K) : OpR X (compareOp .NotIn) (rIn K true) := h ▸ op_notIn_seq
theorem op_catTK (h : X.K = K) : OpR X (binaryOp .Add) (rCatT K) := h ▸ op_catT
theorem op_eqDK (h : X.K = K) (hu : X.A.units + 64 < cLine) : OpR X (compareOp .Eq) (rEqD K) := h ▸ op_eqD hu
theorem op_neDK (h : X.K = K) (hu : X.A.units + 64 < cLine) : OpR X (compareOp .NotEq) (rNeD K) := h ▸ op_neD hu
theorem mt_joinSK (h : X.K = K) : MtR X "str.join" (rJoinS K) := h ▸ mt_joinS
theorem cr_anyK (h : X.K = K) (hc : X.calm = true) : CallR X (.builtin "any") (rAny K) := h ▸ cr_any hc
theorem pi_listK {tg l : Expr} {tl : TE} (h : X.K = K) (hl : PE X l tl) : PI X tg l (iList K tl) := h ▸ pi_list hl
theorem pi_tupK {tg l : Expr} {tl : TE} (h : X.K = K) (hl : PE X l tl) : PI X tg l (iTup K tl) := h ▸ pi_tup hl
theorem bmK {e : Expr} {T : String} {r : V → List V → Hp → VK → Prop} {to : TE} {t : TA} (h : X.K = K) (p : PE X e (tBM X.K T r to t)) : PE X e (tBM K T r to t) := h ▸ p
theorem bm0K {e : Expr} {T : String} {r : V → List V → Hp → VK → Prop} {to : TE} (h : X.K = K) (p : PE X e (tBM0 X.K T r to)) : PE X e (tBM0 K T r to) := h ▸ p
theorem pg_tupK {es : List Expr} {k : Nat} {t : TGs} {n : Nat} {pos : Pos} (hK : X.K = K) (hc : X.calm = true) (h : PGs X es t) (hn : (assignEach es X.env).length = n := by rfl) (hst : (assignEach es X.env).findIdx? (·.1) = none := by rfl) : PG X (.Tuple es k pos) (gTup K n t) := hK ▸ pg_tup hc h hn hst
end
theorem ln1 {x0 : V} : [x0].length ≤ sizeLine := by show 1 ≤ sizeLine; decide
theorem ln2 {x0 x1 : V} : [x0, x1].length ≤ sizeLine := by show 2 ≤ sizeLine; decide
theorem ln3 {x0 x1 x2 : V} : [x0, x1, x2].length ≤ sizeLine := by show 3 ≤ sizeLine; decide
theorem ln4 {x0 x1 x2 x3 : V} : [x0, x1, x2, x3].length ≤ sizeLine := by show 4 ≤ sizeLine; decide
theorem ln5 {x0 x1 x2 x3 x4 : V} : [x0, x1, x2, x3, x4].length ≤ sizeLine := by show 5 ≤ sizeLine; decide
theorem ln6 {x0 x1 x2 x3 x4 x5 : V} : [x0, x1, x2, x3, x4, x5].length ≤ sizeLine := by show 6 ≤ sizeLine; decide
theorem ln7 {x0 x1 x2 x3 x4 x5 x6 : V} : [x0, x1, x2, x3, x4, x5, x6].length ≤ sizeLine := by show 7 ≤ sizeLine; decide
theorem ln8 {x0 x1 x2 x3 x4 x5 x6 x7 : V} : [x0, x1, x2, x3, x4, x5, x6, x7].length ≤ sizeLine := by show 8 ≤ sizeLine; decide
/-! ### data of tuples alone: what never changes -/
mutual
inductive Dt (K : PySem.W.Frag) (H : Hp) : V → PyData → Prop
  | non : Dt K H .non .none
  | bl (b : Bool) : Dt K H (.bl b) (.bool b)
  | int (i : Int) : Dt K H (.int i) (.int i)
  | str (x : Str) : Dt K H (.str x) (.str x)
  | tup {a : Addr} {xs : List V} {ds : List PyData} : SqT K H a xs → DtAll K H xs ds → Dt K H (.ref a) (.tuple ds)
inductive DtAll (K : PySem.W.Frag) (H : Hp) : List V → List PyData → Prop
  | nil : DtAll K H [] []
  | cons {v : V} {vs : List V} {d : PyData} {ds : List PyData} : Dt K H v d → DtAll K H vs ds → DtAll K H (v :: vs) (d :: ds)
end
/-- tuples stand -/
def SameT (H H' : Hp) : Prop := ∀ b, (∀ xs, H b = some (.tup xs) → H' b = some (.tup xs)) ∧ ∀ o xs, H b = some (.frz o (.tup xs)) → H' b = some (.frz o (.tup xs))
theorem sT_of {H H' : Hp} (e : Same H H') : SameT H H' := fun b => ⟨fun _ h => e b _ h, fun _ _ h => e b _ h⟩
theorem SameT.refl (H : Hp) : SameT H H := fun _ => ⟨fun _ h => h, fun _ _ h => h⟩
theorem SameT.trans {H H1 H2 : Hp} (a : SameT H H1) (b : SameT H1 H2) : SameT H H2 := fun c => ⟨fun xs h => (b c).1 xs ((a c).1 xs h), fun o xs h => (b c).2 o xs ((a c).2 o xs h)⟩
theorem SameT.lst {H : Hp} {p : Addr} {xs : List V} {o : HO} (h : H p = some (.lst xs)) : SameT H (upd H p o) := fun b => by
  refine ⟨fun ys e => ?_, fun o' ys e => ?_⟩
  · have : b ≠ p := fun z => by rw [z, h] at e; cases e
    rw [upd_ne this]; exact e
  · have : b ≠ p := fun z => by rw [z, h] at e; cases e
    rw [upd_ne this]; exact e
theorem SameT.sq {K : PySem.W.Frag} {H H' : Hp} {a : Addr} {xs : List V} (e : SameT H H') (h : SqT K H a xs) : SqT K H' a xs := by
  rcases h with (h | ⟨o, h⟩) | h
  · exact .inl (.inl ((e _).1 _ h))
  · exact .inl (.inr ⟨o, (e _).2 _ _ h⟩)
  · exact .inr h
mutual
theorem Dt.keep {K : PySem.W.Frag} {H H' : Hp} (e : SameT H H') : ∀ (d : PyData) (v : V), Dt K H v d → Dt K H' v d
  | .none, _, h => by cases h; exact .non
  | .bool b, _, h => by cases h; exact .bl b
  | .int i, _, h => by cases h; exact .int i
  | .str x, _, h => by cases h; exact .str x
  | .list ds, _, h => by cases h
  | .tuple ds, _, h => by
    cases h with
    | tup hs ha => exact .tup (e.sq hs) (DtAll.keep e ds _ ha)
  | .dict _, _, h => by cases h
theorem DtAll.keep {K : PySem.W.Frag} {H H' : Hp} (e : SameT H H') : ∀ (ds : List PyData) (vs : List V), DtAll K H vs ds → DtAll K H' vs ds
  | [], _, h => by cases h; exact .nil
  | d :: ds, _, h => by
    cases h with
    | cons h1 h2 => exact .cons (Dt.keep e d _ h1) (DtAll.keep e ds _ h2)
end
mutual
theorem Dt.dp {K : PySem.W.Frag} {H : Hp} : ∀ (d : PyData) (v : V), Dt K H v d → Dp K H v d
  | .none, _, h => by cases h; exact .non
  | .bool b, _, h => by cases h; exact .bl b
  | .int i, _, h => by cases h; exact .int i
  | .str x, _, h => by cases h; exact .str x
  | .list ds, _, h => by cases h
  | .tuple ds, _, h => by
    cases h with
    | tup hs ha => exact .tup hs (DtAll.dp ds _ ha)
  | .dict _, _, h => by cases h
theorem DtAll.dp {K : PySem.W.Frag} {H : Hp} : ∀ (ds : List PyData) (vs : List V), DtAll K H vs ds → DpAll K H vs ds
  | [], _, h => by cases h; exact .nil
  | d :: ds, _, h => by
    cases h with
    | cons h1 h2 => exact .cons (Dt.dp d _ h1) (DtAll.dp ds _ h2)
end
section
variable {K : PySem.W.Frag} {H H' : Hp}
theorem Dt.k {v : V} {d : PyData} (h : Dt K H v d) (e : SameT H H') : Dt K H' v d := Dt.keep e d v h
theorem DtAll.k {vs : List V} {ds : List PyData} (h : DtAll K H vs ds) (e : SameT H H') : DtAll K H' vs ds := DtAll.keep e ds vs h
theorem DtAll.len : ∀ {vs : List V} {ds : List PyData}, DtAll K H vs ds → vs.length = ds.length
  | _, _, .nil => rfl
  | _, _, .cons _ t => congrArg (· + 1) (DtAll.len t)
theorem DtAll.get : ∀ {vs : List V} {ds : List PyData} {i : Nat} {d : PyData}, DtAll K H vs ds → ds[i]? = some d → ∃ v, vs[i]? = some v ∧ Dt K H v d
  | _, _, _, _, .nil, e => by simp at e
  | _, _, 0, _, .cons h _, e => by simp at e; subst e; exact ⟨_, rfl, h⟩
  | _, _, i + 1, d, .cons _ t, e => by
    obtain ⟨v, h1, h2⟩ := DtAll.get (i := i) (d := d) t (by simpa using e)
    exact ⟨v, by simpa using h1, h2⟩
theorem DtAll.map {α : Type} {f : α → V} {g : α → PyData} (h : ∀ x, Dt K H (f x) (g x)) : ∀ xs : List α, DtAll K H (xs.map f) (xs.map g)
  | [] => .nil
  | x :: xs => .cons (h x) (DtAll.map h xs)
theorem DtAll.app : ∀ {vs ws : List V} {ds es : List PyData}, DtAll K H vs ds → DtAll K H ws es → DtAll K H (vs ++ ws) (ds ++ es)
  | _, _, _, _, .nil, s => s
  | _, _, _, _, .cons h t, s => .cons h (DtAll.app t s)
theorem DtAll.snoc {vs : List V} {ds : List PyData} {v : V} {d : PyData} (a : DtAll K H vs ds) (b : Dt K H v d) : DtAll K H (vs ++ [v]) (ds ++ [d]) := a.app (.cons b .nil)
theorem Dt.tupE {v : V} {ds : List PyData} (h : Dt K H v (.tuple ds)) : ∃ a xs, v = .ref a ∧ SqT K H a xs ∧ DtAll K H xs ds := by
  cases h with
  | tup hs ha => exact ⟨_, _, rfl, hs, ha⟩
theorem Dt.intE {v : V} {i : Int} (h : Dt K H v (.int i)) : v = .int i := by cases h; rfl
theorem DtAll.ints : ∀ {ns : List Int} {vs : List V}, DtAll K H vs (ns.map .int) → vs = ns.map V.int
  | [], _, h => by cases h; rfl
  | n :: ns, _, h => by
    cases h with
    | cons h1 h2 => rw [Dt.intE h1, DtAll.ints h2]; rfl
theorem DtAll.ofInts (ns : List Int) : DtAll K H (ns.map V.int) (ns.map .int) := DtAll.map (fun i => .int i) ns
/-- an item of a tuple of data -/
theorem Dt.item {v : V} {ds : List PyData} {i : Nat} {d : PyData} (h : Dt K H v (.tuple ds)) (e : ds[i]? = some d) : ∃ a xs w, v = .ref a ∧ SqT K H a xs ∧ xs[i]? = some w ∧ Dt K H w d := by
  obtain ⟨a, xs, rfl, hs, ha⟩ := h.tupE
  obtain ⟨w, h1, h2⟩ := ha.get e
  exact ⟨a, xs, w, rfl, hs, h1, h2⟩
end
/-! ### machines -/
structure Mac where
  steps : List (List Nat)
  start : Nat
  good : List Nat
def nD (n : Nat) : PyData := .int (n : Int)
def rowD (r : List Nat) : PyData := .tuple (r.map nD)
def macD (M : Mac) : PyData := .tuple [.tuple (M.steps.map rowD), nD M.start, rowD M.good]
structure MacOk (M : Mac) (n m : Nat) : Prop where
  len : M.steps.length = n
  row : ∀ r ∈ M.steps, r.length = m ∧ ∀ s ∈ r, s < n
  start : M.start < n
  good : ∀ s ∈ M.good, s < n
  asc : M.good.Pairwise (· < ·)
def iV (n : Nat) : V := .int (n : Int)
def spMachine (K : PySem.W.Frag) : Sp := fun vs H Q _ => ∃ (c : Int) (n m : Nat), vs = [.int c, .int (n : Int), .int (m : Int)] ∧ 1 ≤ n ∧ n ≤ 10 ∧ 1 ≤ m ∧ m ≤ 4 ∧
  ∀ (H' : Hp) (v : V) (M : Mac), Same H H' → Dt K H' v (macD M) → MacOk M n m → Q v H'
theorem cut_drop (xs : List V) (k : Nat) : cutV xs (some (k : Int)) none = xs.drop k := by
  unfold cutV
  rw [HT.sIx_nat, HT.sIx_none]
  by_cases h : k ≤ xs.length
  · rw [Nat.min_eq_left h]
    refine List.take_of_length_le ?_
    rw [List.length_drop]
    exact Nat.le_refl _
  · rw [Nat.min_eq_right (by omega), List.drop_eq_nil_of_le (Nat.le_refl _), List.drop_eq_nil_of_le (by omega), List.take_nil]
theorem menu8 {j : Nat} (h : j < 8) : ∃ d : Int, [V.int 1, V.int 2, V.int 4, V.int 8, V.int 16, V.int 32, V.int 64, V.int 125][j]? = some (.int d) ∧ 0 < d ∧ d < 1073741824 := by
  match j, h with
  | 0, _ => exact ⟨1, rfl, by decide, by decide⟩
  | 1, _ => exact ⟨2, rfl, by decide, by decide⟩
  | 2, _ => exact ⟨4, rfl, by decide, by decide⟩
  | 3, _ => exact ⟨8, rfl, by decide, by decide⟩
  | 4, _ => exact ⟨16, rfl, by decide, by decide⟩
  | 5, _ => exact ⟨32, rfl, by decide, by decide⟩
  | 6, _ => exact ⟨64, rfl, by decide, by decide⟩
  | 7, _ => exact ⟨125, rfl, by decide, by decide⟩
theorem nat_of {z c : Int} (h0 : 0 ≤ z) (h1 : z < c) : ∃ k : Nat, z = (k : Int) ∧ (k : Int) < c := ⟨z.toNat, by omega, by omega⟩
theorem ints_nat (r : List Nat) : (r.map iV) = (r.map fun n : Nat => (n : Int)).map V.int := by rw [List.map_map]; rfl
theorem ofNats {K : PySem.W.Frag} {H : Hp} (r : List Nat) : DtAll K H (r.map iV) (r.map nD) := DtAll.map (α := Nat) (f := iV) (g := nD) (fun n => .int (n : Int)) r
theorem nats_of {ms : List Int} {c : Int} (h : ∀ z ∈ ms, 0 ≤ z ∧ z < c) : ∃ r : List Nat, ms = r.map (fun n : Nat => (n : Int)) ∧ ∀ s ∈ r, (s : Int) < c := by
  refine ⟨ms.map Int.toNat, ?_, fun s hs => ?_⟩
  · rw [List.map_map]
    refine ((List.map_id ms).symm.trans (List.map_congr_left fun z hz => ?_))
    have := (h z hz).1
    show z = ((z.toNat : Nat) : Int)
    omega
  · obtain ⟨z, hz, rfl⟩ := List.mem_map.mp hs
    have := h z hz
    omega
/-! ### where words lead -/
def stepM (M : Mac) (s c : Nat) : Nat := (M.steps.getD s []).getD (c - 97) 0
def leadM (M : Mac) (s : Nat) (w : List Nat) : Nat := w.foldl (stepM M) s
def accM (M : Mac) (w : List Nat) : Bool := decide (leadM M M.start w ∈ M.good)
/-- codes of the first m letters -/
def isW (m : Nat) (w : List Nat) : Prop := ∀ c ∈ w, 97 ≤ c ∧ c < 97 + m
theorem isW.app {m : Nat} {u w : List Nat} (a : isW m u) (b : isW m w) : isW m (u ++ w) := fun c hc => (List.mem_append.mp hc).elim (a c) (b c)
theorem isW.take {m : Nat} {w : List Nat} (a : isW m w) (i : Nat) : isW m (w.take i) := fun c hc => a c (List.mem_of_mem_take hc)
theorem isW.rep {m : Nat} {w : List Nat} (a : isW m w) (k : Nat) : isW m (List.replicate k w).flatten := fun c hc => by
  obtain ⟨l, hl, hc⟩ := List.mem_flatten.mp hc
  rw [(List.mem_replicate.mp hl).2] at hc
  exact a c hc
theorem MacOk.rowAt {M : Mac} {n m s : Nat} (h : MacOk M n m) (hs : s < n) : (M.steps.getD s []).length = m ∧ ∀ t ∈ M.steps.getD s [], t < n := by
  have hs' : s < M.steps.length := by rw [h.len]; exact hs
  rw [List.getD_eq_getElem?_getD, List.getElem?_eq_getElem hs']
  exact h.row _ (List.getElem_mem hs')
theorem getD_mem {l : List Nat} {j : Nat} (h : j < l.length) : l.getD j 0 ∈ l := by
  rw [List.getD_eq_getElem?_getD, List.getElem?_eq_getElem h]
  exact List.getElem_mem h
theorem MacOk.step {M : Mac} {n m s c : Nat} (h : MacOk M n m) (hs : s < n) (h0 : 97 ≤ c) (h1 : c < 97 + m) : stepM M s c < n := by
  obtain ⟨hl, hr⟩ := h.rowAt hs
  exact hr _ (getD_mem (by rw [hl]; omega))
theorem leadM_lt {M : Mac} {n m : Nat} (h : MacOk M n m) : ∀ (w : List Nat) (s : Nat), s < n → isW m w → leadM M s w < n
  | [], s, hs, _ => hs
  | c :: w, s, hs, hw => leadM_lt h w _ (h.step hs (hw c List.mem_cons_self).1 (hw c List.mem_cons_self).2) fun d hd => hw d (List.mem_cons_of_mem _ hd)
theorem leadM_snoc (M : Mac) (s : Nat) (w : List Nat) (c : Nat) : leadM M s (w ++ [c]) = stepM M (leadM M s w) c := by
  unfold leadM
  rw [List.foldl_append]
  rfl
section
variable {K : PySem.W.Frag} {H : Hp}
theorem rowE {v : V} {r : List Nat} (h : Dt K H v (rowD r)) : ∃ p, v = .ref p ∧ SqT K H p (r.map iV) := by
  obtain ⟨p, xs, rfl, hs, ha⟩ := h.tupE
  refine ⟨p, rfl, ?_⟩
  have e : r.map nD = (r.map fun n : Nat => (n : Int)).map PyData.int := by rw [List.map_map]; rfl
  rw [e] at ha
  rw [ints_nat, ← ha.ints]
  exact hs
theorem macE {v : V} {M : Mac} (h : Dt K H v (macD M)) : ∃ a st gd vs, v = .ref a ∧ SqT K H a [.ref st, iV M.start, .ref gd] ∧ SqT K H st vs ∧ DtAll K H vs (M.steps.map rowD) ∧ SqT K H gd (M.good.map iV) := by
  obtain ⟨a, xs, rfl, hs, ha⟩ := h.tupE
  cases ha with
  | cons h1 t1 =>
  cases t1 with
  | cons h2 t2 =>
  cases t2 with
  | cons h3 t3 =>
  cases t3
  obtain ⟨st, vs, rfl, hst, hvs⟩ := h1.tupE
  obtain ⟨gd, rfl, hg⟩ := rowE h3
  have e := Dt.intE h2
  subst e
  exact ⟨a, st, gd, vs, rfl, hs, hst, hvs, hg⟩
theorem rowsE {vs : List V} {M : Mac} {s : Nat} (h : DtAll K H vs (M.steps.map rowD)) (hs : s < M.steps.length) : ∃ p, vs[s]? = some (.ref p) ∧ SqT K H p ((M.steps.getD s []).map iV) := by
  obtain ⟨w, h1, h2⟩ := h.get (i := s) (d := rowD M.steps[s]) (by rw [List.getElem?_map, List.getElem?_eq_getElem hs]; rfl)
  obtain ⟨p, rfl, hp⟩ := rowE h2
  refine ⟨p, h1, ?_⟩
  rw [List.getD_eq_getElem?_getD, List.getElem?_eq_getElem hs]
  exact hp
theorem at_nat {r : List Nat} {z : Int} {j : Nat} (e : z = (j : Int)) (h : j < r.length) : atI (r.map iV) z = some (iV (r.getD j 0)) := by
  refine at_of e ?_
  rw [List.getElem?_map, List.getD_eq_getElem?_getD, List.getElem?_eq_getElem h]
  rfl
end
theorem let_ix {c m : Nat} (h0 : 97 ≤ c) (h1 : c < 97 + m) (hm : m ≤ 4) : [97, 98, 99, 100][c - 97]? = some c := by
  have h : c = 97 ∨ c = 98 ∨ c = 99 ∨ c = 100 := by omega
  rcases h with rfl | rfl | rfl | rfl <;> rfl
theorem inV_nat (k : Nat) (g : List Nat) : inV (iV k) (g.map iV) = decide (k ∈ g) := by
  unfold inV
  rw [List.any_map]
  by_cases h : k ∈ g
  · rw [decide_eq_true h]
    exact List.any_eq_true.mpr ⟨k, h, by show ((k : Int) == (k : Int)) = true; exact beq_self_eq_true _⟩
  · rw [decide_eq_false h]
    refine List.any_eq_false.mpr fun y hy e => h ?_
    have e2 : ((y : Int) == (k : Int)) = true := e
    have e3 : (y : Int) = (k : Int) := eq_of_beq e2
    have : y = k := by omega
    rw [← this]; exact hy
theorem flat_nats (g : List Nat) : (g.map iV).all flatV = true := by
  refine List.all_eq_true.mpr fun x hx => ?_
  obtain ⟨n, _, rfl⟩ := List.mem_map.mp hx
  rfl
def spLead (K : PySem.W.Frag) : Sp := fun vs H Q _ => ∃ (v : V) (M : Mac) (n m s : Nat) (w : List Nat), vs = [v, iV s, sV w] ∧ Dt K H v (macD M) ∧ MacOk M n m ∧ m ≤ 4 ∧ s < n ∧ isW m w ∧ Q (iV (leadM M s w)) H
def spAcc (K : PySem.W.Frag) : Sp := fun vs H Q _ => ∃ (v : V) (M : Mac) (n m : Nat) (w : List Nat), vs = [v, sV w] ∧ Dt K H v (macD M) ∧ MacOk M n m ∧ m ≤ 4 ∧ isW m w ∧ Q (.bl (accM M w)) H
def abcdG (m : Nat) : List Nat := List.take m [97, 98, 99, 100]
theorem abcdG_len {m : Nat} (h : m ≤ 4) : (abcdG m).length = m := by
  unfold abcdG
  rw [List.length_take]
  exact Nat.min_eq_left h
def spLetters (K : PySem.W.Frag) : Sp := fun vs H Q _ => ∃ (v : V) (M : Mac) (n m : Nat), vs = [v] ∧ Dt K H v (macD M) ∧ MacOk M n m ∧ 1 ≤ n ∧ m ≤ 4 ∧ Q (sV (abcdG m)) H
def spWord (K : PySem.W.Frag) : Sp := fun vs H Q _ => ∃ (c : Int) (m : Nat), vs = [.int c, .int (m : Int)] ∧ 1 ≤ m ∧ m ≤ 4 ∧
  ∀ (H' : Hp) (w : List Nat), Same H H' → w.length ≤ 14 → isW m w → Q (sV w) H'
theorem foldl_signs : ∀ (cs : List Nat) (acc : Array Nat), (cs.map fun c => (⟨#[c]⟩ : Str)).foldl (fun acc p => acc ++ (⟨#[]⟩ : Str).cps ++ p.cps) acc = acc ++ cs.toArray
  | [], acc => by simp
  | c :: cs, acc => by
    rw [List.map_cons, List.foldl_cons, foldl_signs cs]
    apply Array.ext'
    simp
theorem join_signs (cs : List Nat) : Txt.join (Str.ofString "") (cs.map fun c => (⟨#[c]⟩ : Str)) = ⟨cs.toArray⟩ := by
  have e0 : Str.ofString "" = (⟨#[]⟩ : Str) := by decide +kernel
  rw [e0]
  cases cs with
  | nil => rfl
  | cons c cs =>
    show (⟨((cs.map fun c => (⟨#[c]⟩ : Str)).foldl (fun acc p => acc ++ (⟨#[]⟩ : Str).cps ++ p.cps) #[c])⟩ : Str) = ⟨(c :: cs).toArray⟩
    rw [foldl_signs]
    congr 1
    apply Array.ext'
    simp
theorem cutV_map {α : Type} (f : α → V) (xs : List α) (lo hi : Option Int) : ∃ ys : List α, cutV (xs.map f) lo hi = ys.map f ∧ ys.length ≤ xs.length ∧ ∀ y ∈ ys, y ∈ xs := by
  refine ⟨(xs.drop (HT.sIx (xs.map f).length 0 lo)).take (HT.sIx (xs.map f).length (xs.map f).length hi - HT.sIx (xs.map f).length 0 lo), ?_, ?_, fun y hy => List.mem_of_mem_drop (List.mem_of_mem_take hy)⟩
  · unfold cutV
    rw [List.map_take, List.map_drop]
  · rw [List.length_take, List.length_drop]
    omega
theorem r_in {K : PySem.W.Frag} {H : Hp} {Q : VK} {k : Nat} {g : List Nat} {p : Addr} (h : SqT K H p (g.map iV)) (q : Q (.bl (decide (k ∈ g))) H) : rIn K false (iV k) (.ref p) H Q := ⟨p, _, rfl, .inr h, rfl, flat_nats g, by rw [← inV_nat] at q; exact q⟩
section
variable {σ : L2.St} {H : Hp} {Q : VK} {K : PySem.W.Frag} {ta tb tc : TE}
def rInSg : R2 := fun x y H Q => ∃ (c : Nat) (z : Str), x = .str ⟨#[c]⟩ ∧ y = .str z ∧ Q (.bl (decide (c ∈ z.cps.toList))) H
def rNotInSg : R2 := fun x y H Q => ∃ (c : Nat) (z : Str), x = .str ⟨#[c]⟩ ∧ y = .str z ∧ Q (.bl (!decide (c ∈ z.cps.toList))) H
theorem op_inSg {X : Cx} : OpR X (compareOp .In) rInSg := op_in_sign
theorem op_notInSg {X : Cx} : OpR X (compareOp .NotIn) rNotInSg := op_notIn_sign
theorem r_inSg {c : Nat} {l : List Nat} (q : Q (.bl (decide (c ∈ l))) H) : rInSg (.str ⟨#[c]⟩) (.str ⟨l.toArray⟩) H Q := ⟨c, _, rfl, rfl, q⟩
theorem r_notInSg {c : Nat} {l : List Nat} (q : Q (.bl (!decide (c ∈ l))) H) : rNotInSg (.str ⟨#[c]⟩) (.str ⟨l.toArray⟩) H Q := ⟨c, _, rfl, rfl, q⟩
theorem r_chain {r r' : R2} (h : ta σ H fun x H1 => tb σ H1 fun y H2 => r x y H2 fun z H3 => ∃ k, z = .bl k ∧ if k = true then tc σ H3 fun w' H4 => r' y w' H4 Q else Q (.bl false) H3) : tChain r r' ta tb tc σ H Q := h
theorem r_slT {p : Addr} {xs : List V} {lo hi : Option Int} (h : SqT K H p xs) (c : ¬ (HT.sIx xs.length 0 lo = 0 ∧ HT.sIx xs.length xs.length hi = xs.length)) (q : ∀ l, H l = none → Q (.ref l) (upd H l (.tup (cutV xs lo hi)))) : rSlT K (.ref p) lo hi H Q := ⟨p, xs, rfl, h, c, q⟩
theorem r_any {p : Addr} {bs : List Bool} (h : SqL K H p (bs.map V.bl)) (q : Q (.bl (bs.any id)) H) : rAny K [.ref p] H Q := ⟨p, bs, rfl, h, q⟩
theorem r_eqD {x y : V} {d e : PyData} (h1 : Dp K H x d) (h2 : Dp K H y e) (s1 : SeqAt.shaped d = true) (s2 : SeqAt.shaped e = true) (q : Q (.bl (PyData.eqv d e)) H) : rEqD K x y H Q := ⟨d, e, h1, h2, s1, s2, q⟩
theorem r_neD {x y : V} {d e : PyData} (h1 : Dp K H x d) (h2 : Dp K H y e) (s1 : SeqAt.shaped d = true) (s2 : SeqAt.shaped e = true) (q : Q (.bl (!PyData.eqv d e)) H) : rNeD K x y H Q := ⟨d, e, h1, h2, s1, s2, q⟩
end
theorem lay_ints : ∀ A : List Int, PyData.canLayAll0 (A.map .int) = true
  | [] => rfl
  | a :: A => by
    have ih := lay_ints A
    simp [PyData.canLayAll0, PyData.canLay0] at ih ⊢
    exact ih
theorem eqv_ints_all : ∀ A B : List Int, PyData.eqvAll (A.map .int) (B.map .int) = decide (A = B)
  | [], [] => rfl
  | [], b :: B => rfl
  | a :: A, [] => rfl
  | a :: A, b :: B => by
    show (a == b && PyData.eqvAll (A.map .int) (B.map .int)) = _
    rw [eqv_ints_all A B]
    by_cases h : a = b
    · subst h
      by_cases h2 : A = B
      · subst h2; simp
      · simp [h2]
    · simp [h]
theorem depth_ints : ∀ A : List Int, PyData.depthAll (A.map .int) = 0
  | [] => rfl
  | a :: A => by
    have ih := depth_ints A
    show max 0 _ = 0
    rw [ih]
    rfl
theorem shaped_ints (A : List Int) : SeqAt.shaped (.list (A.map .int)) = true := by
  refine Bool.and_eq_true_iff.mpr ⟨lay_ints A, decide_eq_true ?_⟩
  show PyData.depthAll _ + 1 ≤ 64
  rw [depth_ints]
  decide
theorem eqv_lists (A B : List Int) : PyData.eqv (.list (A.map .int)) (.list (B.map .int)) = decide (A = B) := by
  rw [PyData.eqv]
  exact eqv_ints_all A B
theorem dp_ints {K : PySem.W.Frag} {H : Hp} {p : Addr} {A : List Int} (h : SqL K H p (A.map V.int)) : Dp K H (.ref p) (.list (A.map .int)) := .lst h (dpAll_map (fun i => .int i) A)
theorem cut_1 (xs : List V) : cutV xs (some 1) none = xs.drop 1 := cut_drop xs 1
theorem six_1 (n : Nat) : HT.sIx n 0 (some 1) = min 1 n := HT.sIx_nat n 0 1
/-- the ways behind a statement are joined: what holds there -/
theorem r_cutJ {t u : TS} {D : Ends} {σ : L2.St} {H : Hp} (J : L2.St → Hp → Prop) (key : ∀ σ H, J σ H → u D σ H) (h : (∀ σ H, J σ H → u D σ H) → t { D with nx := u D } σ H) : tSeq t u D σ H := h key
theorem six_m1 (n d : Nat) : HT.sIx n d (some (-1)) = n - 1 := by
  show (if (-1 : Int) < 0 then ((-1 : Int) + (n : Int)).toNat else min (-1 : Int).toNat n) = n - 1
  rw [if_pos (by decide)]
  omega
theorem cut_init (xs : List V) (y : V) : cutV (xs ++ [y]) none (some (-1)) = xs := by
  unfold cutV
  rw [HT.sIx_none, six_m1, List.length_append]
  simp
theorem cut_mid (xs : List V) (j : Nat) : (cutV xs (some (j : Int)) (some (-1))).length = xs.length - 1 - j := by
  unfold cutV
  rw [HT.sIx_nat, six_m1, List.length_take, List.length_drop]
  omega
theorem cut_to (xs : List V) (k : Nat) (h : k ≤ xs.length) : cutV xs none (some (k : Int)) = xs.take k := by
  unfold cutV
  rw [HT.sIx_none, HT.sIx_nat, Nat.min_eq_left h]
  rfl
theorem inV_int (k : Int) (g : List Int) : inV (.int k) (g.map V.int) = decide (k ∈ g) := by
  unfold inV
  rw [List.any_map]
  by_cases h : k ∈ g
  · rw [decide_eq_true h]
    exact List.any_eq_true.mpr ⟨k, h, by show (k == k) = true; exact beq_self_eq_true _⟩
  · rw [decide_eq_false h]
    refine List.any_eq_false.mpr fun y hy e => h ?_
    have e2 : (y == k) = true := e
    rw [← eq_of_beq e2]; exact hy
theorem flat_ints (g : List Int) : (g.map V.int).all flatV = true := by
  refine List.all_eq_true.mpr fun x hx => ?_
  obtain ⟨n, _, rfl⟩ := List.mem_map.mp hx
  rfl
section
variable {K : PySem.W.Frag} {H : Hp} {Q : VK} {p : Addr}
theorem r_inT {k : Int} {g : List Int} (h : SqT K H p (g.map V.int)) (q : Q (.bl (decide (k ∈ g))) H) : rIn K false (.int k) (.ref p) H Q := ⟨p, _, rfl, .inr h, rfl, flat_ints g, by rw [← inV_int] at q; exact q⟩
theorem r_inL {k : Int} {g : List Int} (h : SqL K H p (g.map V.int)) (q : Q (.bl (decide (k ∈ g))) H) : rIn K false (.int k) (.ref p) H Q := ⟨p, _, rfl, .inl h, rfl, flat_ints g, by rw [← inV_int] at q; exact q⟩
theorem mt_indexLK {X : Cx} (hK : X.K = K) : MtR X "list.index" (rIndex K) := hK ▸ mt_index
theorem r_indexL {k : Int} {g : List Int} (h : SqL K H p (g.map V.int)) (hk : k ∈ g) (q : Q (.int (g.idxOf k : Nat)) H) : rIndex K (.ref p) [.int k] H Q := by
  have hl := List.idxOf_lt_length_of_mem hk
  refine ⟨p, _, .int k, g.idxOf k, .int k, rfl, rfl, h, rfl, flat_ints g, ?_, ?_, fun m z' hm hz => ?_, q⟩
  · rw [List.getElem?_map, List.getElem?_eq_getElem hl, List.getElem_idxOf hl]
    rfl
  · show (k == k) = true
    exact beq_self_eq_true _
  · rw [List.getElem?_map] at hz
    obtain ⟨y, hy, rfl⟩ := Option.map_eq_some_iff.mp hz
    show (y == k) = false
    obtain ⟨hml, ey⟩ := List.getElem?_eq_some_iff.mp hy
    have := List.not_of_lt_findIdx (p := (· == k)) (xs := g) (i := m) hm
    rw [ey] at this
    simpa using this
theorem r_rep {l : Addr} {k : Int} {xs : List V} (h : H l = some (.lst xs)) (h0 : 0 ≤ k) (h1 : k ≤ 1000000) (hl : xs.length * k.toNat ≤ sizeLine) (q : ∀ p, H p = none → Q (.ref p) (upd H p (.lst (List.replicate k.toNat xs).flatten))) : rRep (.ref l) (.int k) H Q := ⟨l, k, xs, rfl, rfl, h, by omega, by omega, hl, q⟩
end
def sgD (c : Nat) : PyData := .str ⟨#[c]⟩
def sgV (c : Nat) : V := .str ⟨#[c]⟩
theorem lay_signs : ∀ A : List Nat, (∀ c ∈ A, c < 1000) → PyData.canLayAll0 (A.map sgD) = true
  | [], _ => rfl
  | a :: A, h => by
    have ih := lay_signs A fun c hc => h c (List.mem_cons_of_mem _ hc)
    have ha := h a List.mem_cons_self
    show (PyData.strOk ⟨#[a]⟩ && PyData.canLayAll0 (A.map sgD)) = true
    rw [ih, Bool.and_true]
    unfold PyData.strOk
    simp
    omega
theorem depth_signs : ∀ A : List Nat, PyData.depthAll (A.map sgD) = 0
  | [] => rfl
  | a :: A => by
    have ih := depth_signs A
    show max 0 _ = 0
    rw [ih]
    rfl
theorem shaped_signs {A : List Nat} (h : ∀ c ∈ A, c < 1000) : SeqAt.shaped (.list (A.map sgD)) = true := by
  refine Bool.and_eq_true_iff.mpr ⟨lay_signs A h, decide_eq_true ?_⟩
  show PyData.depthAll _ + 1 ≤ 64
  rw [depth_signs]
  decide
theorem eqv_signs_nil (A : List Nat) : PyData.eqv (.list (A.map sgD)) (.list []) = decide (A = []) := by
  rw [PyData.eqv]
  cases A <;> rfl
theorem dp_signs {K : PySem.W.Frag} {H : Hp} {p : Addr} {A : List Nat} (h : SqL K H p (A.map sgV)) : Dp K H (.ref p) (.list (A.map sgD)) := .lst h (dpAll_map (fun c => .str _) A)
end G
set_option Elab.async false
set_option linter.all false
set_option maxRecDepth 100000
set_option maxHeartbeats 2000000
namespace G
open PySem PySem.Spec PyProof.Rows L2 LamX NdefX
/-! ### lambdas with parameters, handed on: F their words (its body is of no account), e their expression -/
abbrev lamFd (F : NF) (e : Expr) (pm ctv : Value) : FuncData :=
  PySem.W.kla_fn "<lambda>" F.qual F.params e F.scope F.cl pm (.ref F.c) ctv
def LamO (f : Addr) (F : NF) (e : Expr) : HO := .ext fun h => ∃ (od : Option Addr) (sl : Array (Option Value)) (pm ctv : Value),
  h.get? f = some (⟨.type "function", od, .func (lamFd F e pm ctv), sl⟩ : Obj)
theorem lamO_at {P : Program} {w : World} {H : Hp} {h : Heap} {f : Addr} {F : NF} {e : Expr} (hok : HOk P w H h) (q : H f = some (LamO f F e)) :
    ∃ (od : Option Addr) (sl : Array (Option Value)) (pm ctv : Value), h.get? f = some (⟨.type "function", od, .func (lamFd F e pm ctv), sl⟩ : Obj) := (hok f _ q).1
theorem lamO_ne {f : Addr} {F : NF} {e : Expr} (ps : Array Value) : LamO f F e ≠ .tbl ps := fun z => by
  unfold LamO at z
  exact nomatch z
/-- what was there is there -/
def Dom (H H' : Hp) : Prop := ∀ b, H b ≠ none → H' b ≠ none
theorem Dom.upd {H H' : Hp} {a : Addr} {o : HO} (h : Dom H H') : Dom H (L2.upd H' a o) := fun b hb => by
  unfold L2.upd
  split
  · exact fun z => nomatch z
  · exact h b hb
abbrev lamNF (X : Cx) (params : Arguments) (scope : Scope) (c' : Addr) : NF :=
  ⟨"<lambda>", X.env.qual ++ "<lambda>", params, [], scope, cloFrom X.env.cells scope.names [], c'⟩
section
variable {X : Cx} {pins : List (Addr × Obj)} {σ : L2.St} {H : Hp} {s : Shared}
theorem inv_lam {F : NF} {e : Expr} {o : Obj} {tk : Nat} {pm ctv : Value} (I : Inv X pins σ H s) (ho : o = { cls := .type "function", data := .func (lamFd F e pm ctv) }) :
    Inv X pins σ (upd H s.heap.objs.size (LamO s.heap.objs.size F e)) { s with heap := s.heap.push o, toks := tk } := by
  subst ho
  have at_ := Heap.get?_push_size (o := ({ cls := .type "function", data := .func (lamFd F e pm ctv) } : Obj)) s.heap rfl
  exact I.laid (fun b u z => Heap.get?_push_of_some _ z) (Nat.le_refl _)
    ⟨⟨_, _, pm, ctv, at_⟩, ⟨_, at_⟩, fun h1 h2 z st => by
      obtain ⟨od, sl, p1, p2, z⟩ := z
      exact ⟨od, sl, p1, p2, st _ z⟩⟩
theorem lam_make {T : List (Addr × Str)} {c P : Addr} {params : Arguments} {body : Expr} {scope : Scope} {pos : Pos} {E : Value → Shared → Prop} {Q : Value → Shared → Prop}
    (I : Inv X pins σ H s) (TB : TabB X.base X.mg c P) (hcode : X.env.code = .ref c)
    (hm : (P, X.env.qual ++ "<lambda>") ∈ T) (hu : ∀ p ∈ T, p.1 = P → p.2 = X.env.qual ++ "<lambda>") (hT : Tabs T H)
    (hdef : defaultsOf params X.env = ([], [])) (hfree : ∀ y ∈ scope.names, y.2 = .free → ∃ c, X.env.cells.lookup y.1 = some c)
    (h : ∀ (f c' : Addr) (H1 : Hp) (s' : Shared), Inv X pins σ H1 s' → ExtN H H1 → Dom H H1 → Tabs T H1 → H f = none →
      H1 f = some (LamO f (lamNF X params scope c') body) → H1 c' = some (CodeO c' (X.env.qual ++ "<lambda>")) → Q (.ref f) s') :
    wpAny (model X.prog X.w) X.A (eval (.Lambda params body scope pos) X.env) Q E s := by
  obtain ⟨ps, tabP, trip, told⟩ := hT _ hm
  refine PySem.W.kla_eval hdef ?_
  have bmP : s.heap.BuiltinsAt X.mg P := TB.bm.keeps I.bk
  have objP : s.heap.get? P = some { cls := .none, data := .fields ps } := I.hok P _ tabP
  have clo := closure_ok (env := X.env) hfree
  have gl := I.mod.glob.keeps I.bk
  have hd := TB.code.keeps I.bk
  cases found : codeAmong pos ps.toList with
  | some cv =>
    obtain ⟨c', rfl, hco⟩ := told pos cv found
    refine PySem.W.kla_makeFunctionHit (mg := X.mg) (c := c) (P := P) (ps := ps) clo I.ok.glob gl
      hcode hd objP trip found bmP fun ctv h' tk keep big => ?_
    have I1 : Inv X pins σ H { s with heap := h', toks := tk } := I.kept keep
    have new : H h'.objs.size = none := I1.hok.fresh (Nat.le_refl _)
    have I2 := inv_lam (F := lamNF X params scope c') (e := body) (tk := tk) (pm := (X.mg "__name__").getD .none) (ctv := ctv) I1 rfl
    refine h _ c' _ _ I2 (fun b o z _ => (upd_ne (ne_of_none z new)).trans z) (Dom.upd fun b z => z) ?_ new upd_same ((upd_ne (ne_of_none hco new)).trans hco)
    exact hT.ext fun b o z => (upd_ne (ne_of_none z new)).trans z
  | none =>
    refine PySem.W.kla_makeFunction (mg := X.mg) (c := c) (P := P) (ps := ps) clo I.ok.glob gl
      hcode hd objP trip found TB.gP bmP fun c' ctv h' tk keep ge lt rec_ tab => ?_
    obtain ⟨c2, oc, vs, t, e2, a1, a2, a3⟩ := rec_
    obtain rfl := Value.ref.inj e2
    have newC : H c' = none := I.hok.fresh ge
    have I1 := inv_table (q := X.env.qual ++ "<lambda>") (t' := tk) (more := #[rawInt pos.line, rawInt pos.col, .ref c']) I tabP
      (fun b o hb z => keep b o hb z) tab ge ⟨oc, vs, t, a1, a2, a3⟩
    have ext1 : ExtN H (upd (upd H P (.tbl (ps ++ #[rawInt pos.line, rawInt pos.col, .ref c']))) c' (CodeO c' (X.env.qual ++ "<lambda>"))) := fun b o z n => by
      have nb : b ≠ P := fun y => by
        rw [y, tabP] at z
        exact n ps (Option.some.inj z).symm
      rw [upd_ne (ne_of_none z newC), upd_ne nb]
      exact z
    have codeAt : (upd (upd H P (.tbl (ps ++ #[rawInt pos.line, rawInt pos.col, .ref c']))) c' (CodeO c' (X.env.qual ++ "<lambda>"))) c' = _ := upd_same
    have eL : (ps ++ #[rawInt pos.line, rawInt pos.col, Value.ref c']).toList = ps.toList ++ [rawInt pos.line, rawInt pos.col, .ref c'] := by simp
    have tabs1 : Tabs T (upd (upd H P (.tbl (ps ++ #[rawInt pos.line, rawInt pos.col, .ref c']))) c' (CodeO c' (X.env.qual ++ "<lambda>"))) := fun p hp => by
      obtain ⟨qs, b1, b2, b3⟩ := hT p hp
      by_cases hb : p.1 = P
      · refine ⟨ps ++ #[rawInt pos.line, rawInt pos.col, .ref c'], ?_, ?_, fun p' cv hcv => ?_⟩
        · rw [hb, upd_ne (ne_of_none tabP newC)]
          exact upd_same
        · rw [eL]
          exact PySem.TriplesOk_snoc _ _ _ _ trip
        · rw [eL] at hcv
          rw [hu p hp hb]
          rcases among_app _ trip hcv with z | z
          · obtain ⟨c0, d1, d2⟩ := told p' cv z
            exact ⟨c0, d1, ext1 _ _ d2 codeO_ne⟩
          · exact ⟨c', z, codeAt⟩
      · refine ⟨qs, ?_, b2, fun p' cv hcv => ?_⟩
        · rw [upd_ne (ne_of_none b1 newC), upd_ne hb]
          exact b1
        · obtain ⟨c0, d1, d2⟩ := b3 p' cv hcv
          exact ⟨c0, d1, ext1 _ _ d2 codeO_ne⟩
    have newF := I1.hok.fresh (Nat.le_refl _)
    have I2 := inv_lam (F := lamNF X params scope c') (e := body) (tk := tk) (pm := (X.mg "__name__").getD .none) (ctv := ctv) I1 rfl
    refine h _ c' _ _ I2 (fun b o z n => ?_) (Dom.upd (Dom.upd (Dom.upd fun b z => z))) (tabs1.ext fun b o z => (upd_ne (ne_of_none z newF)).trans z) ?_ upd_same ((upd_ne (ne_of_none codeAt newF)).trans codeAt)
    · have z1 := ext1 b o z n
      exact (upd_ne (ne_of_none z1 newF)).trans z1
    · cases z : H h'.objs.size with
      | none => rfl
      | some o =>
        have big : s.heap.objs.size ≤ h'.objs.size := Nat.le_trans ge (Nat.le_of_lt lt)
        rw [I.hok.fresh big] at z
        exact nomatch z
end
/-- the reading of a lambda: a new function object -/
def tLamH (T : List (Addr × Str)) (mk : Addr → NF) (e : Expr) : TE := fun σ H Q => Tabs T H ∧ ∀ (f c' : Addr) (H1 : Hp), ExtN H H1 → Tabs T H1 → H f = none →
  H1 f = some (LamO f (mk c') e) → H1 (mk c').c = some (CodeO (mk c').c (mk c').qual) → Q (.ref f) H1
section
variable {X : Cx}
theorem pe_lamH {T : List (Addr × Str)} {c P : Addr} {params : Arguments} {body : Expr} {scope : Scope} {pos : Pos} (TB : TabB X.base X.mg c P) (hcode : X.env.code = .ref c)
    (hm : (P, X.env.qual ++ "<lambda>") ∈ T) (hu : ∀ p ∈ T, p.1 = P → p.2 = X.env.qual ++ "<lambda>") (hdef : defaultsOf params X.env = ([], []))
    (hfree : ∀ y ∈ scope.names, y.2 = .free → X.env.scope.names.lookup y.1 = some .cell ∨ X.env.scope.names.lookup y.1 = some .free) :
    PE X (.Lambda params body scope pos) (tLamH T (lamNF X params scope) body) := by
  refine ⟨fun pins s σ H Q I h => ?_⟩
  obtain ⟨hT, h⟩ := h
  have fr : ∀ y ∈ scope.names, y.2 = .free → ∃ c, X.env.cells.lookup y.1 = some c := fun y hy e => (hfree y hy e).elim (fun z => I.ok.has _ (.inl z)) fun z => I.ok.has _ (.inr z)
  exact lam_make I TB hcode hm hu hT hdef fr fun f c' H1 s' I1 x1 _ t1 n1 l1 k1 => ⟨.ref f, H1, I1, rfl, h f c' H1 x1 t1 n1 l1 k1⟩
end
/-- what a call leaves: all but the tables stays, nothing is gone -/
structure ExD (H H' : Hp) : Prop where
  n : ExtN H H'
  d : Dom H H'
def tLamD (T : List (Addr × Str)) (mk : Addr → NF) (e : Expr) : TE := fun σ H Q => Tabs T H ∧ ∀ (f c' : Addr) (H1 : Hp), ExD H H1 → Tabs T H1 → H f = none →
  H1 f = some (LamO f (mk c') e) → H1 (mk c').c = some (CodeO (mk c').c (mk c').qual) → Q (.ref f) H1
section
variable {X : Cx}
theorem pe_lamD {T : List (Addr × Str)} {c P : Addr} {params : Arguments} {body : Expr} {scope : Scope} {pos : Pos} (TB : TabB X.base X.mg c P) (hcode : X.env.code = .ref c)
    (hm : (P, X.env.qual ++ "<lambda>") ∈ T) (hu : ∀ p ∈ T, p.1 = P → p.2 = X.env.qual ++ "<lambda>") (hdef : defaultsOf params X.env = ([], []))
    (hfree : ∀ y ∈ scope.names, y.2 = .free → X.env.scope.names.lookup y.1 = some .cell ∨ X.env.scope.names.lookup y.1 = some .free) :
    PE X (.Lambda params body scope pos) (tLamD T (lamNF X params scope) body) := by
  refine ⟨fun pins s σ H Q I h => ?_⟩
  obtain ⟨hT, h⟩ := h
  have fr : ∀ y ∈ scope.names, y.2 = .free → ∃ c, X.env.cells.lookup y.1 = some c := fun y hy e => (hfree y hy e).elim (fun z => I.ok.has _ (.inl z)) fun z => I.ok.has _ (.inr z)
  exact lam_make I TB hcode hm hu hT hdef fr fun f c' H1 s' I1 x1 d1 t1 n1 l1 k1 => ⟨.ref f, H1, I1, rfl, h f c' H1 ⟨x1, d1⟩ t1 n1 l1 k1⟩
end
/-! ### what a lambda promises -/
structure LOk (P : Program) (w : World) (K : PySem.W.Frag) (mg : Str → Option Value) (base : Heap) (CX : CXT) (k : Nat) (f : Addr) (F : NF) (e : Expr) (ps fr : List Str) (sp : List (Option V) → Sp) : Prop where
  len : ∀ ws vs H Q E, sp ws vs H Q E → vs.length = ps.length
  run : ∀ (A : Around) (outer : List Env) (s : Shared) (H : Hp) (us : List Value) (vs : List V) (ws : List (Option V)) (Q : VK) (E : XK),
    Room k A → Env0 P w K mg base A outer s H → H f = some (LamO f F e) → H F.c = some (CodeO F.c F.qual) →
    CellsAt F.cl fr ws s.heap H → Vals vs us → sp ws vs H Q E → codeAny (model P w) A (.call (.ref f) ⟨us, []⟩) (CR CX outer P w H s Q E) s
section
variable {CX : CXT} {P : Program} {w : World} {K : PySem.W.Frag} {mg : Str → Option Value} {base : Heap} {N ps fr : List Str} {F : NF} {e : Expr} {f : Addr} {k j : Nat} {sp : List (Option V) → Sp}
theorem LOk.mono (o : LOk P w K mg base CX j f F e ps fr sp) (h : j ≤ k) : LOk P w K mg base CX k f F e ps fr sp :=
  ⟨o.len, fun A outer s H us vs ws Q E hr => o.run A outer s H us vs ws Q E (hr.mono h)⟩
/-- THE RULE: a lambda by its expression -/
theorem lok_of (S : NScope N ps fr F.scope) (hb : ∀ (pm ctv : Value) (us : List Value), us.length = ps.length → bindArgs (lamFd F e pm ctv) ⟨us, []⟩ = pure (ps.zip us))
    (len : ∀ ws vs H Q E, sp ws vs H Q E → vs.length = ps.length)
    (hbody : ∀ (A : Around) (outer : List Env) (s : Shared) (H : Hp) (vs : List V) (ws : List (Option V)) (Q : VK) (E : XK), Room k (A.deeper (envF F f s.heap.objs.size)) →
      ws.length = fr.length → sp ws vs H Q E → ∃ t, PE (ncx CX P w K mg base N F f A outer s H E) e t ∧ t (startF N vs ws) H Q) :
    LOk P w K mg base CX (k + 1) f F e ps fr sp := by
  refine ⟨len, fun A outer s H us vs ws Q E hr e0 hf hc C r hsp => ?_⟩
  have hl := len _ _ _ _ _ hsp
  have lim : s.heap.NoLimit := e0.mod.nolimit.keeps fun b o z => (e0.bs b o z).1
  obtain ⟨od, sl, pm, ctv, ho⟩ := lamO_at e0.hok hf
  refine PySem.W.kla_callFunE hr.depth ho rfl S.co S.gen rfl (codeO_at e0.hok hc) ?_
  rw [hb pm ctv us (by rw [← r.length]; exact hl)]
  refine wpAny_pure (wpAny_newFunctionEnv S.nocell (fun y hy => S.par y.1 (List.of_mem_zip (b := y.2) hy).1) (fun h₁ hns hsb => ⟨lim.fresh _ hsb, ?_⟩) S.kind)
  show codeAny _ _ (.expr e (envF F f s.heap.objs.size)) _ _
  have kp : ∀ b o, s.heap.get? b = some o → h₁.get? b = some o := fun b o z =>
    hsb.extBut b o (Nat.ne_of_lt (Heap.lt_size z)) (Heap.get?_push_of_some _ z)
  obtain ⟨t, ht, hq⟩ := hbody A outer s H vs ws Q E (hr.deeper _) C.len hsp
  have I := inv_startN (CX := CX) (E := E) (f := f) (tk := s.toks + (ps.zip us).length) S hr.hd e0 hl r C hns kp
  refine PySem.W.kla_codeExpr (wpAny_mono (ht.run [] _ (startF N vs ws) H _ I hq) (fun u s' hs => ?_) fun _ _ hs => hs)
  obtain ⟨v, H', J, rv, q⟩ := hs
  exact ⟨v, H', J.os, J.bare, J.base, J.hok, rv, q⟩
end
/-! ### calls of such a lambda in a def that was handed it -/
structure Clo where
  cl : List (Str × Addr)
  fr : List Str
  ws : List (Option V)
/-- its captured cells hold so, and are no frames of those that run -/
structure HeldC (C : Clo) (l : List Env) (h : Heap) (H : Hp) : Prop where
  at_ : CellsAt C.cl C.fr C.ws h H
  nofr : ∀ y c, C.cl.lookup y = some c → c ∉ frs l
section
variable {X : Cx} {pins : List (Addr × Obj)} {σ : L2.St} {H : Hp} {s : Shared}
theorem held_later {C : Clo} (h : HeldC C X.outer X.s_0.heap X.H_0) (nx : X.ex = []) (I : Inv X pins σ H s) : HeldC C X.stack s.heap H := by
  refine ⟨h.at_.later (fun y c z => h.nofr y c z) (fun y c _ => by rw [nx]; simp) I, fun y c z hc => ?_⟩
  obtain ⟨v, o, ho, hd⟩ := (h.at_.all y c z).2
  rcases List.mem_cons.mp (I.stkSub c hc) with e | e
  · have h1 := I.ok.above
    have h2 := Heap.lt_size ho
    rw [e] at h2
    exact absurd (Nat.lt_of_lt_of_le h2 h1) (Nat.lt_irrefl _)
  · exact h.nofr y c z e
/-- .. of the def that makes it -/
theorem held_made {C : Clo} {js : List Nat} (c : Caps X C.cl C.fr js) (hw : C.ws = js.map (slotAt σ)) (hfn : ∀ x, X.fn x = true) (I : Inv X pins σ H s) : HeldC C X.stack s.heap H := by
  refine ⟨by rw [hw]; exact cells_of I c, fun y a z hc => ?_⟩
  have ha := c.sub y a z
  rcases List.mem_cons.mp (I.stkSub a hc) with e | e
  · exact I.cne y a ha e
  · obtain ⟨_, o, ho, _⟩ := I.ok.funs.mem e
    have h1 := I.ok.cab y a (hfn y) ha
    exact absurd (Nat.lt_of_lt_of_le (Heap.lt_size ho) h1) (Nat.lt_irrefl _)
end
/-- x(..), x a name that holds a lambda that was handed in -/
def tCallH (i : Nat) (F : Addr → NF → Expr → Prop) (sp : NF → Sp) (t : TA) : TE := fun σ H Q => ∃ f F' e, σ[i]? = some (some (.ref f)) ∧ F f F' e ∧ H f = some (LamO f F' e) ∧
  t σ H fun vs H1 => H1 f = some (LamO f F' e) ∧ H1 F'.c = some (CodeO F'.c F'.qual) ∧ sp F' vs H1 Q E0
section
variable {X : Cx} {k j i : Nat} {x : Str} {t : TA} {e : Expr} {es : List Expr} {p pos : Pos} {FP : Addr → NF → Expr → Prop} {sp : NF → Sp}
theorem fnAt_lam {pins : List (Addr × Obj)} {σ : L2.St} {H : Hp} {s : Shared} {f : Addr} {F : NF} {e : Expr} (I : Inv X pins σ H s) (q : H f = some (LamO f F e)) : PySem.W.FnAt f s.heap := by
  obtain ⟨od, sl, pm, ctv, ho⟩ := lamO_at I.hok q
  exact ⟨_, od, _, sl, ho⟩
theorem pe_callH (Fn : ∀ f F e, FP f F e → ∃ (C : Clo) (ps : List Str) (spL : List (Option V) → Sp), C.cl = F.cl ∧ LOk X.prog X.w X.K X.mg X.base CX0 k f F e ps C.fr spL ∧ HeldC C X.outer X.s_0.heap X.H_0 ∧ ∀ vs H Q E, sp F vs H Q E → spL C.ws vs H Q E) (nx : X.ex = [])
    (hr : Room j X.A) (hk : k ≤ j) (hN : X.N[i]? = some x) (hv : Vis X.env.scope x) (ha : PA X (e :: es) t)
    (hd : (x == ("__debug__" : Str)) = false := by decide) (hcd : (x == ("__classdict__" : Str)) = false := by decide)
    (he : starEach (e :: es) X.env = (false, eval e X.env) :: starEach es X.env := by rfl) (hpl : (backTo pos (starEach es X.env)).any (·.1) = false := by rfl) :
    PE X (.Call (.Name x p) (e :: es) [] pos) (tCallH i FP sp t) := by
  refine ⟨fun pins s σ H Q I h => ?_⟩
  obtain ⟨f, F, e', hs, hFP, hf, ht⟩ := h
  obtain ⟨C, ps, spL, eC, L, hC, hS⟩ := Fn f F e' hFP
  have nm := (pe_var (pos := p) hN hv hd hcd).run pins s σ H (fun v H1 => v = .ref f ∧ H1 = H) I ⟨.ref f, hs, rfl, rfl⟩
  refine wpAny_Call_Name_kw (thn nm fun u s1 q1 => ?_)
  obtain ⟨v, H1, I1, r1, ev, eH⟩ := q1
  subst ev
  rw [eH] at I1
  obtain rfl : u = Value.ref f := r1
  refine PySem.W.callWith_F (first := []) (fnAt_lam I1 hf) (thn (ha.run pos pins s1 σ H _ I1 ht) fun us s2 q2 => ?_) he hpl
  obtain ⟨vs, H2, I2, r, h1, h2, q⟩ := q2
  refine ⟨fnAt_lam I2 h1, ?_⟩
  show wpAny _ _ (call (.ref f) us) _ _ _
  have hc2 := (held_later hC nx I2).at_
  rw [eC] at hc2
  refine wpAny_call (codeAny_mono (L.run X.A X.stack s2 H2 us vs C.ws Q E0 (hr.mono hk) I2.env0 h1 h2 hc2 r (hS _ _ _ _ q)) fun r s' hq => ?_)
  cases r with
  | error _ => exact (show False from hq).elim
  | ok fl =>
    cases fl with
    | ret u => exact I2.after hq
    | next => exact (show False from hq).elim
    | brk => exact (show False from hq).elim
    | cont => exact (show False from hq).elim
end
/-! ### a def that is handed lambdas -/
structure FnOkC (P : Program) (w : World) (K : PySem.W.Frag) (mg : Str → Option Value) (base : Heap) (CX : CXT) (k : Nat) (f : Addr) (fd : FuncData) (ps : List Str) (sp : List Clo → Sp) : Prop where
  len : ∀ Cs vs H Q E, sp Cs vs H Q E → vs.length = ps.length
  run : ∀ (Cs : List Clo) (A : Around) (outer : List Env) (s : Shared) (H : Hp) (args : Args) (us : List Value) (vs : List V) (Q : VK) (E : XK), Room k A → Env0 P w K mg base A outer s H → BindsTo s fd args (ps.zip us) → Vals vs us →
    (∀ C ∈ Cs, HeldC C outer s.heap H) → sp Cs vs H Q E → codeAny (model P w) A (.call (.ref f) args) (CR CX outer P w H s Q E) s
theorem FnOkC.mono {P : Program} {w : World} {K : PySem.W.Frag} {mg : Str → Option Value} {base : Heap} {CX : CXT} {k j : Nat} {f : Addr} {fd : FuncData} {ps : List Str} {sp : List Clo → Sp}
    (o : FnOkC P w K mg base CX j f fd ps sp) (h : j ≤ k) : FnOkC P w K mg base CX k f fd ps sp :=
  ⟨o.len, fun Cs A outer s H args us vs Q E hr => o.run Cs A outer s H args us vs Q E (hr.mono h)⟩
section
variable {P : Program} {w : World} {K : PySem.W.Frag} {mg : Str → Option Value} {base : Heap}
/-- THE RULE for such a def -/
theorem Fun.okC {x qual : Str} {st : Stmt} {f : Addr} {fd : FuncData} {N ps : List Str} {k : Nat} {sp : List Clo → Sp} (F : Fun K x qual st f fd) (S : FnScope N ps (defScope st)) (len : ∀ Cs vs H Q E, sp Cs vs H Q E → vs.length = ps.length)
    (hbody : ∀ (cdv : Value) (Cs : List Clo) (A : Around) (outer : List Env) (s : Shared) (H : Hp) (vs : List V) (Q : VK) (E : XK), Room k (A.deeper (envOfC qual (defScope st) s.heap.objs.size f cdv)) → (∀ C ∈ Cs, HeldC C outer s.heap H) → sp Cs vs H Q E →
      ∃ t, PSs (cxOf CX0 P w K mg base N qual (defScope st) f cdv A outer s H E).nox (defBody st) t ∧ t { nx := fun _ H' => Q .non H', rt := Q } (L2.start N vs) H) : FnOkC P w K mg base CX0 (k + 1) f fd ps sp := by
  obtain ⟨oc, od, kV, doc, pm, an, cdv, ct, osl, rfl, lk, hcd⟩ := F.ex
  refine ⟨len, fun Cs A outer s H args us vs Q E hr e0 hb r hC hsp => ?_⟩
  refine run_ofS lk hcd S hr e0 hb r (len _ _ _ _ _ hsp) fun hr2 => ?_
  obtain ⟨t, ht, hq⟩ := hbody cdv Cs A outer s H vs Q E hr2 hC hsp
  exact ⟨t, ht.nox, hq⟩
/-- a def whose code object is named -/
structure FunC (K : PySem.W.Frag) (x qual : Str) (st : Stmt) (f : Addr) (fd : FuncData) (c : Addr) : Prop where
  ex : ∃ (oc : Value) (od : Option Addr) (kV doc pm : Value) (an : Option Addr) (ct : Value) (osl : Array (Option Value)),
    fd = PySem.W.fnOf x qual (defArgs st) (defBody st) (defScope st) .none kV doc pm an (.ref c) ct ∧ K.lookup f = some ⟨oc, od, .func fd, osl⟩ ∧ PySem.W.codeIn K (.ref c) qual = true
  kp : PySem.W.keepIn K (.ref f) = true
theorem FunC.fun_ {x qual : Str} {st : Stmt} {f c : Addr} {fd : FuncData} (F : FunC K x qual st f fd c) : Fun K x qual st f fd := by
  obtain ⟨oc, od, kV, doc, pm, an, ct, osl, e, lk, hcd⟩ := F.ex
  exact ⟨⟨oc, od, kV, doc, pm, an, _, ct, osl, e, lk, hcd⟩, F.kp⟩
/-- THE RULE for a def that makes lambdas -/
theorem FunC.ok {x qual : Str} {st : Stmt} {f c : Addr} {fd : FuncData} {N ps : List Str} {k : Nat} {sp : Sp} (F : FunC K x qual st f fd c) (S : FnScope N ps (defScope st)) (len : ∀ vs H Q E, sp vs H Q E → vs.length = ps.length)
    (hbody : ∀ (A : Around) (outer : List Env) (s : Shared) (H : Hp) (vs : List V) (Q : VK) (E : XK), Room k (A.deeper (envOfC qual (defScope st) s.heap.objs.size f (.ref c))) → sp vs H Q E →
      ∃ t, PSs (cxOf CX0 P w K mg base N qual (defScope st) f (.ref c) A outer s H E).nox (defBody st) t ∧ t { nx := fun _ H' => Q .non H', rt := Q } (L2.start N vs) H) : FnOk P w K mg base CX0 (k + 1) f fd ps sp := by
  obtain ⟨oc, od, kV, doc, pm, an, ct, osl, rfl, lk, hcd⟩ := F.ex
  refine fn_of lk hcd S len fun A outer s H vs Q E hr hsp => ?_
  obtain ⟨t, ht, hq⟩ := hbody A outer s H vs Q E hr hsp
  exact ⟨t, ht.nox, hq⟩
end
def tCallC (Cs : L2.St → List Clo) (sp : List Clo → Sp) (t : TA) : TE := fun σ H Q => t σ H fun vs H1 => sp (Cs σ) vs H1 Q E0
section
variable {X : Cx} {k : Nat} {f : Addr} {fd : FuncData} {ps : List Str} {sp : List Clo → Sp} {x : Str} {p pos : Pos} {e : Expr} {es : List Expr} {t : TA} {Cs : L2.St → List Clo}
theorem pe_callC (F : FnOkC X.prog X.w X.K X.mg X.base CX0 k f fd ps sp) (hC : ∀ pins σ H s, Inv X pins σ H s → ∀ C ∈ Cs σ, HeldC C X.stack s.heap H) (hr : Room k X.A) (hg : Gl X x) (hm : X.mg x = some (.ref f)) (hk : PySem.W.keepIn X.K (.ref f) = true) (hb : Binds X.K fd ps [])
    (ha : PA X (e :: es) t) (hdb : (x == ("__debug__" : Str)) = false := by decide) (he : starEach (e :: es) X.env = (false, eval e X.env) :: starEach es X.env := by rfl) (hpl : (backTo pos (starEach es X.env)).any (·.1) = false := by rfl) :
    PE X (.Call (.Name x p) (e :: es) [] pos) (tCallC Cs sp t) := by
  refine ⟨fun pins s σ H Q I h => ?_⟩
  refine wpAny_Call_Name_kw (ld_glob I hg hm ?_ hdb)
  refine PySem.W.callWith_K (h₀ := X.base) I.ok.mod.kin hk (thn (ha.run pos pins s σ H _ I h) fun us s1 q1 => ?_) he hpl
  obtain ⟨vs, H1, I1, r, q⟩ := q1
  refine ⟨I1.kIn, ?_⟩
  have hl : us.length = ps.length := by
    rw [← r.length]
    exact F.len _ _ _ _ _ q
  have bnd := hb s1 us I1.kIn (by rw [List.append_nil]; exact hl)
  rw [List.append_nil] at bnd
  refine wpAny_call (codeAny_mono (F.run (Cs σ) X.A X.stack s1 H1 ⟨us, []⟩ us vs Q E0 hr I1.env0 bnd r (hC _ _ _ _ I1) q) fun r s' hq => ?_)
  cases r with
  | error _ => exact (show False from hq).elim
  | ok fl =>
    cases fl with
    | ret u => exact I1.after hq
    | next => exact (show False from hq).elim
    | brk => exact (show False from hq).elim
    | cont => exact (show False from hq).elim
end
/-! ### for the writer of terms -/
def eLamArgs : Expr → Arguments | .Lambda ps _ _ _ => ps | _ => { posonlyargs := [], args := [], vararg := none, kwonlyargs := [], kw_defaults := [], kwarg := none, defaults := [] }
def eLamBody : Expr → Expr | .Lambda _ b _ _ => b | _ => noE
def eLamScope : Expr → Scope | .Lambda _ _ sc _ => sc | _ => { kind := .function, names := [], isGenerator := false, isCoroutine := false }
def eKey (k : Nat) : Expr → Expr | .Dict ks _ _ => (ks.getD k none).getD noE | _ => noE
def eVl (k : Nat) : Expr → Expr | .Dict _ vs _ => vs.getD k noE | _ => noE
theorem held_nil {X : Cx} : ∀ (pins : List (Addr × Obj)) (σ : L2.St) (H : Hp) (s : Shared), Inv X pins σ H s → ∀ C ∈ ([] : List Clo), HeldC C X.stack s.heap H := fun _ _ _ _ _ C hC => nomatch hC
theorem held_cons {X : Cx} {scope : Scope} {js : List Nat} {fr : List Str} {Cs : L2.St → List Clo} (hfn : ∀ x, X.fn x = true) (hB : NdefX.ndefB X.env.scope scope fr = true) (hjs : js.map (fun j => X.N[j]?) = fr.map some)
    (rest : ∀ (pins : List (Addr × Obj)) (σ : L2.St) (H : Hp) (s : Shared), Inv X pins σ H s → ∀ C ∈ Cs σ, HeldC C X.stack s.heap H) :
    ∀ (pins : List (Addr × Obj)) (σ : L2.St) (H : Hp) (s : Shared), Inv X pins σ H s → ∀ C ∈ (⟨cloFrom X.env.cells scope.names [], fr, js.map (NdefX.slotAt σ)⟩ : Clo) :: Cs σ, HeldC C X.stack s.heap H := by
  intro pins σ H s I C hC
  rcases List.mem_cons.mp hC with rfl | hC
  · exact held_made (js := js) (NdefX.Caps.made I.ok (NdefX.ndef_free hB) (NdefX.ndef_fr hB) hjs) rfl hfn I
  · exact rest pins σ H s I C hC
theorem tabs_uniq {l : List (Addr × Str)} {P : Addr} {x : Str} (nd : (l.map (·.1)).Nodup) (hm : (P, x) ∈ l) : ∀ p ∈ l, p.1 = P → p.2 = x := by
  induction l with
  | nil => exact nomatch hm
  | cons y l ih =>
    obtain ⟨n1, n2⟩ := List.nodup_cons.mp (show (y.1 :: l.map (·.1)).Nodup from nd)
    intro p hp e
    rcases List.mem_cons.mp hm with h1 | h1
    · rcases List.mem_cons.mp hp with h2 | h2
      · rw [h2, ← h1]
      · have m2 : p.1 ∈ l.map (·.1) := List.mem_map_of_mem h2
        rw [e, show P = y.1 by rw [← h1]] at m2
        exact absurd m2 n1
    · rcases List.mem_cons.mp hp with h2 | h2
      · have m2 : P ∈ l.map (·.1) := List.mem_map_of_mem (f := (·.1)) h1
        rw [← e, h2] at m2
        exact absurd m2 n1
      · exact ih n2 h1 p h2 e
theorem tabs_nil {l : List (Addr × Str)} {H : Hp} (h : ∀ p ∈ l, H p.1 = some (.tbl #[])) : Tabs l H := fun p hp => TabS.nil (h p hp)
theorem fun_of_D {K : PySem.W.Frag} {x : Str} {st : Stmt} {f : Addr} {fd : FuncData} (F : FunD K x x (defArgs st) (defBody st) (defScope st) [] [] f fd) : Fun K x x st f fd := by
  obtain ⟨oc, od, dV, kV, doc, pm, an, cdv, ct, osl, rfl, lk, hcd, hD, _⟩ := F.ex
  rcases hD with ⟨_, rfl⟩ | ⟨e, _⟩
  · exact ⟨⟨oc, od, kV, doc, pm, an, cdv, ct, osl, rfl, lk, hcd⟩, F.kp⟩
  · exact absurd rfl e
theorem funC_of_D {K : PySem.W.Frag} {x : Str} {st : Stmt} {p : Str × Option Str} {fd : FuncData} (F : FunD K x x (defArgs st) (defBody st) (defScope st) [] [] (He.fAd K p) fd) : FunC K x x st (He.fAd K p) fd (He.cT K p).1 := by
  obtain ⟨oc, od, dV, kV, doc, pm, an, cdv, ct, osl, rfl, lk, hcd, hD, _⟩ := F.ex
  obtain ⟨c, rfl⟩ := He.codeIn_ref hcd
  have ec := He.codeOf_eq lk rfl
  rcases hD with ⟨_, rfl⟩ | ⟨e, _⟩
  · show FunC K x x st _ _ (He.codeOf K p)
    rw [ec]
    exact ⟨⟨oc, od, kV, doc, pm, an, ct, osl, rfl, lk, hcd⟩, F.kp⟩
  · exact absurd rfl e
/-! ### what stands where code tables grow -/
section
variable {K : PySem.W.Frag} {H H' : Hp}
theorem _root_.LamX.ExtN.keep {a : Addr} {o : HO} (e : ExtN H H') (h : H a = some o) (n : ∀ ps, o ≠ .tbl ps) : H' a = some o := e a o h n
theorem _root_.LamX.ExtN.sqL {a : Addr} {xs : List V} (e : ExtN H H') (h : SqL K H a xs) : SqL K H' a xs := by
  rcases h with (h | ⟨o, h⟩) | h
  · exact .inl (.inl (e _ _ h fun _ z => nomatch z))
  · exact .inl (.inr ⟨o, e _ _ h fun _ z => nomatch z⟩)
  · exact .inr h
theorem _root_.LamX.ExtN.sqT {a : Addr} {xs : List V} (e : ExtN H H') (h : SqT K H a xs) : SqT K H' a xs := by
  rcases h with (h | ⟨o, h⟩) | h
  · exact .inl (.inl (e _ _ h fun _ z => nomatch z))
  · exact .inl (.inr ⟨o, e _ _ h fun _ z => nomatch z⟩)
  · exact .inr h
theorem _root_.LamX.ExtN.tup {a : Addr} {xs : List V} (e : ExtN H H') (h : H a = some (.tup xs)) : H' a = some (.tup xs) := e _ _ h fun _ z => nomatch z
theorem _root_.LamX.ExtN.lst {a : Addr} {xs : List V} (e : ExtN H H') (h : H a = some (.lst xs)) : H' a = some (.lst xs) := e _ _ h fun _ z => nomatch z
theorem _root_.LamX.ExtN.dT {a : Addr} {kvs : List (List Key × V)} (e : ExtN H H') (h : H a = some (.dT kvs)) : H' a = some (.dT kvs) := e _ _ h fun _ z => nomatch z
theorem _root_.LamX.ExtN.same {H2 : Hp} (e : ExtN H H') (s : Same H' H2) : ExtN H H2 := e.trans (ExtN.of s)
theorem _root_.LamX.ExtN.sT (e : ExtN H H') : SameT H H' := fun b => ⟨fun _ h => e b _ h (fun _ z => nomatch z), fun _ _ h => e b _ h (fun _ z => nomatch z)⟩
theorem ExD.refl (H : Hp) : ExD H H := ⟨ExtN.refl H, fun _ h => h⟩
theorem ExD.trans {H2 : Hp} (e : ExD H H') (f : ExD H' H2) : ExD H H2 := ⟨e.n.trans f.n, fun b h => f.d b (e.d b h)⟩
theorem ExD.of (s : Same H H') : ExD H H' := ⟨ExtN.of s, fun b h z => by
  cases e : H b with
  | none => exact h e
  | some o => rw [s _ _ e] at z; exact nomatch z⟩
theorem ExD.same {H2 : Hp} (e : ExD H H') (s : Same H' H2) : ExD H H2 := e.trans (ExD.of s)
theorem ExD.mut {p : Addr} {o : HO} (e : ExD H H') (h : H p = none) : ExD H (L2.upd H' p o) := ⟨fun b u hb n => by
  rw [upd_ne (ne_of_none hb h)]
  exact e.n b u hb n, Dom.upd e.d⟩
theorem ExD.free {p : Addr} (e : ExD H H') (h : H' p = none) : H p = none := Classical.byContradiction fun z => e.d p z h
theorem ExD.tup {a : Addr} {xs : List V} (e : ExD H H') (h : H a = some (.tup xs)) : H' a = some (.tup xs) := e.n.tup h
theorem ExD.lst {a : Addr} {xs : List V} (e : ExD H H') (h : H a = some (.lst xs)) : H' a = some (.lst xs) := e.n.lst h
theorem ExD.dT {a : Addr} {kvs : List (List Key × V)} (e : ExD H H') (h : H a = some (.dT kvs)) : H' a = some (.dT kvs) := e.n.dT h
theorem ExD.keep {a : Addr} {o : HO} (e : ExD H H') (h : H a = some o) (n : ∀ ps, o ≠ .tbl ps) : H' a = some o := e.n a o h n
theorem ExD.frz {a : Addr} {o : Obj} {u : HO} (e : ExD H H') (h : H a = some (.frz o u)) : H' a = some (.frz o u) := e.n _ _ h fun _ z => nomatch z
theorem ExD.sqL {a : Addr} {xs : List V} (e : ExD H H') (h : SqL K H a xs) : SqL K H' a xs := e.n.sqL h
theorem ExD.sqT {a : Addr} {xs : List V} (e : ExD H H') (h : SqT K H a xs) : SqT K H' a xs := e.n.sqT h
theorem ExD.sT (e : ExD H H') : SameT H H' := e.n.sT
theorem _root_.LamX.Tabs.same {l : List (Addr × Str)} (t : Tabs l H) (s : Same H H') : Tabs l H' := t.ext s
end
section
variable {σ : L2.St} {H : Hp} {Q : VK}
theorem r_callC {Cs : L2.St → List Clo} {sp : List Clo → Sp} {t : TA} (h : t σ H fun vs H1 => sp (Cs σ) vs H1 Q E0) : tCallC Cs sp t σ H Q := h
theorem r_lamH {T : List (Addr × Str)} {mk : Addr → NF} {e : Expr} (hT : Tabs T H) (h : ∀ (f c' : Addr) (H1 : Hp), ExtN H H1 → Tabs T H1 → H f = none → H1 f = some (LamO f (mk c') e) → H1 (mk c').c = some (CodeO (mk c').c (mk c').qual) → Q (.ref f) H1) : tLamH T mk e σ H Q := ⟨hT, h⟩
theorem r_lamD {T : List (Addr × Str)} {mk : Addr → NF} {e : Expr} (hT : Tabs T H) (h : ∀ (f c' : Addr) (H1 : Hp), ExD H H1 → Tabs T H1 → H f = none → H1 f = some (LamO f (mk c') e) → H1 (mk c').c = some (CodeO (mk c').c (mk c').qual) → Q (.ref f) H1) : tLamD T mk e σ H Q := ⟨hT, h⟩
end
end G
set_option Elab.async false
set_option linter.all false
set_option maxRecDepth 100000
set_option maxHeartbeats 4000000
namespace G
open PySem PySem.Spec PyProof.Rows L2
/-! ### {e for x in ..}, e a whole number -/
abbrev noInts : Int → Bool := fun _ => false
abbrev moreI (S : Int → Bool) (k : Int) : Int → Bool := fun j => S j || decide (j = k)
abbrev moreN (S : Int → Bool) (n : Nat) (k : Int) : Nat := if S k = true then n else n + 1
/-- a turn's end: the item y goes into the set at D -/
def putI (w : World) (D : Addr) (R : Hp → Prop) : VK := fun y H => ∃ (k : Int) (S : Int → Bool) (n : Nat),
  y = .int k ∧ H D = some (SetO w D S n) ∧ n + 1 < scanBound ∧ R (upd H D (SetO w D (moreI S k) (moreN S n k)))
def turnI (w : World) (D : Addr) (vs : List Nat) (σ : L2.St) (g : TG) (tt : TT) (te : TE) (x : V) (H : Hp) (R : Hp → Prop) : Prop :=
  g x (wipe σ vs) H fun σ2 H2 => wipe σ2 vs = wipe σ vs ∧ tt σ2 H2 fun b H3 => if b = true then te σ2 H3 (putI w D R) else R H3
def tScI (w : World) (wi : TI) (g : TG) (tt : TT) (te : TE) (vs : List Nat) : TE := fun σ H Q => wi σ H fun J H1 => ∀ D, H1 D = none →
  ∃ W : Nat → Nat → Hp → Prop, (∃ m, W 0 m (upd H1 D (SetO w D noInts 0))) ∧ ∀ i m H, W i m H →
    (J.stop i H ∧ Q (.ref D) H) ∨ (J.go i H ∧ ∃ R : Hp → Prop, (∀ H', R H' → ∃ m', m' < m ∧ W (i + 1) m' H') ∧ ∀ x H', J.yld i H x H' → turnI w D vs σ g tt te x H' R)
section
variable {X : Cx}
theorem add_int {pins : List (Addr × Obj)} {σ : L2.St} {H : Hp} {s : Shared} {E : Value → Shared → Prop} {D : Addr} {v : Value} {y : V} {R : Hp → Prop}
    (I : Inv X pins σ H s) (r : RelV y v) (h : putI X.w D R y H) :
    wpAny (model X.prog X.w) X.A (call (.builtin "set.add") [.ref D, v]) (fun _ s' => ∃ H', Inv X pins σ H' s' ∧ R H') E s := by
  obtain ⟨k, S, n, rfl, hD, room, q⟩ := h
  obtain ⟨tk, rfl⟩ := r
  refine setR_add (setO_get I hD) room fun h' same new => ⟨_, I.write (e := D) (t' := s.toks + 1) ?_ (.inl rfl) (fun b u hb hu => (same.2 b hb).trans hu) ?_ (setO_new new), q⟩
  · rw [hD]
    trivial
  · obtain ⟨o, _, _, _, ho, _⟩ := new
    exact ⟨o, ho⟩
theorem scI_core {pins : List (Addr × Obj)} {s : Shared} {σ : L2.St} {H : Hp} {Q : VK} {elt tg iter : Expr} {ifs : List Expr} {scope : Scope} {own : List (PySem.Str × Nat)} {pos pos' : Pos} {wi : TI} {g : TG} {tt : TT} {te : TE} {use : Option (Value → Sem Unit)} {Qf : Value → Shared → Prop}
    (calm : X.calm = true) (nd : X.N.Nodup) (I : Inv X pins σ H s) (hi : PI X tg iter wi) (ok : BlkOk X.N X.env.scope scope own)
    (hg : ∀ (s : Shared) (H : Hp) (C : Addr) (cl : List (PySem.Str × Addr)) (fp : List Addr), PG (X.blk s H scope (compEnvC scope cl C X.env) fp) tg g)
    (ht : ∀ (s : Shared) (H : Hp) (C : Addr) (cl : List (PySem.Str × Addr)) (fp : List Addr), PTs (X.blk s H scope (compEnvC scope cl C X.env) fp) ifs tt)
    (he : ∀ (s : Shared) (H : Hp) (C : Addr) (cl : List (PySem.Str × Addr)) (fp : List Addr), PE (X.blk s H scope (compEnvC scope cl C X.env) fp) elt te)
    (plain : ∀ x, foldedSetIterable iter X.env x = pure x) (h : tScI X.w wi g tt te (own.map (·.2)) σ H Q)
    (back : ∀ D C s' m H', Inv X pins σ H' s' → Q (.ref D) H' → s'.heap.Ns C m → FpOk X pins H' C → compPost (model X.prog X.w) X.A X.xe use Qf (.ref D) C (.ok .next) s') :
    wpAny (model X.prog X.w) X.A (comprehension (.SetComp elt [⟨tg, iter, ifs, 0⟩] scope pos) scope X.env pos' (newSet (.type "set")) false (eval iter X.env) use) Qf X.xe s := by
  have has : ∀ y ∈ scope.names, y.2 = .free → ∃ c, X.env.cells.lookup y.1 = some c := fun y hy e =>
    (ok.free y hy e).elim (fun k => I.ok.has _ (.inl k)) fun k => I.ok.has _ (.inr k)
  refine wpAny_comprehension_free (use := use) rfl plain (closure_ok has) ok.kind (fun y hy e => by rw [ok.uniq y hy, e]) ?_
  refine thn (hi.run pins s σ H _ I h) fun _ _ hx => thn hx fun _ sa ha => ?_
  obtain ⟨it, fp, at_, J, Ha, rfl, Ia, T, sta, fa, q⟩ := ha
  refine PpSet.newSet_ok (newEnv_comp ?_)
  obtain ⟨D, eD⟩ : ∃ D, sa.heap.objs.size = D := ⟨_, rfl⟩
  rw [eD]
  have freshD : Ha D = none := Ia.hok.fresh (Nat.le_of_eq eD)
  obtain ⟨W, ⟨m0, w0⟩, turn⟩ := q D freshD
  obtain ⟨sb, esb⟩ : ∃ sb : Shared, ({ sa with heap := sa.heap.push { cls := .type "set", dict := none, data := .set #[] 0 (.fresh 0 0 (!X.w.params.followText "set-order")) } } : Shared) = sb := ⟨_, rfl⟩
  have hb : sb.heap = sa.heap.push { cls := .type "set", dict := none, data := .set #[] 0 (.fresh 0 0 (!X.w.params.followText "set-order")) } := by rw [← esb]
  have Ib : Inv X pins σ (upd Ha D (SetO X.w D noInts 0)) sb := by
    subst esb eD
    exact Ia.laid (t' := sa.toks) (fun _ _ e => Heap.get?_push_of_some _ e) (Nat.le_refl _) (setO_new (setR_fresh X.w))
  obtain ⟨Hb, eHb⟩ : ∃ Hb, upd Ha D (SetO X.w D noInts 0) = Hb := ⟨_, rfl⟩
  have fb : ∀ b ∈ fp, FpOk X pins Hb b ∧ b < sb.heap.objs.size := fun b hm => by
    obtain ⟨o, e, _⟩ := T.obj _ _ sta b hm
    have lt := Heap.lt_size e
    refine ⟨⟨?_, (fa b hm).2⟩, ?_⟩
    · rw [← eHb, upd_ne (by rw [← eD]; exact Nat.ne_of_lt lt)]
      exact (fa b hm).1
    · rw [hb, Heap.size_push]
      exact Nat.lt_succ_of_lt lt
  have stb : at_ 0 sb.heap := T.keep _ _ _ sta fun b _ o e => by
    rw [hb]
    exact Heap.get?_push_of_some _ e
  rw [eHb] at Ib w0
  have Ic := block_start Ib ok nd fb
  obtain ⟨C, eC⟩ : ∃ C, sb.heap.objs.size = C := ⟨_, rfl⟩
  have pg := hg sb Hb C (cellsFrom (C + 1) scope.names (cloFrom X.env.cells scope.names [])) fp
  have pt := ht sb Hb C (cellsFrom (C + 1) scope.names (cloFrom X.env.cells scope.names [])) fp
  have pe := he sb Hb C (cellsFrom (C + 1) scope.names (cloFrom X.env.cells scope.names [])) fp
  rw [eC] at Ic
  rw [esb, eC]
  show codeAny _ _ (.compStart (.SetComp elt [⟨tg, iter, ifs, 0⟩] scope pos) 0 (.ref it) (.ref D) (compEnvC scope (cellsFrom (C + 1) scope.names (cloFrom X.env.cells scope.names [])) C X.env))
    (compPost (model X.prog X.w) X.A X.xe use Qf (.ref D) C) { sb with heap := pushCells (sb.heap.push { cls := .type "dict", data := .dict #[] }) scope.names }
  obtain ⟨ce, ece⟩ : ∃ ce, compEnvC scope (cellsFrom (C + 1) scope.names (cloFrom X.env.cells scope.names [])) C X.env = ce := ⟨_, rfl⟩
  rw [ece] at Ic pg pt pe ⊢
  have eL : ce.locals = C := by rw [← ece]; rfl
  obtain ⟨sc, esc⟩ : ∃ sc : Shared, ({ sb with heap := pushCells (sb.heap.push { cls := .type "dict", data := .dict #[] }) scope.names } : Shared) = sc := ⟨_, rfl⟩
  rw [esc] at Ic ⊢
  have stc : at_ 0 sc.heap := T.keep _ _ _ stb fun b _ o e => by
    rw [← esc]
    exact pushCells_keeps _ _ _ _ (Heap.get?_push_of_some _ e)
  have stat : ∀ {τ : L2.St} {G : Hp} {r : Shared}, Inv (X.blk sb Hb scope ce fp) [] τ G r → (∀ b ∈ fp, G b = none) → ∀ b ∈ fp, FpOk (X.blk sb Hb scope ce fp) [] G b :=
    fun {τ G r} J hn b hm => ⟨hn b hm, (J.ok.exf b hm).1, J.ok.exfs b hm, .inl hm, fun x c e => (J.ok.exf b hm).2 x c e, fun p hp => nomatch (show p ∈ ([] : List (Addr × Obj)) ++ [] from hp)⟩
  have loop : codeAny (model X.prog X.w) X.A (.compLoop (.SetComp elt [⟨tg, iter, ifs, 0⟩] scope pos) 0 (.ref it) (.ref D) ce) (compPost (model X.prog X.w) X.A X.xe use Qf (.ref D) C) sc := by
    refine PpSet.compLoopS_any (fun n r => ∃ i G, Inv (X.blk sb Hb scope ce fp) [] (wipe σ (own.map (·.2))) G r ∧ at_ i r.heap ∧ (∀ b ∈ fp, G b = none) ∧ W i n G) ?_ m0
      ⟨0, Hb, Ic, stc, fun b hm => (fb b hm).1.1, w0⟩
    rintro n s5 ⟨i, H5, I5, st5, n5, w5⟩
    rcases turn i n H5 w5 with ⟨stop, fin⟩ | ⟨go, R, hR, step⟩
    · refine thnF (T.done (X.blk sb Hb scope ce fp) rfl rfl rfl calm i [] s5 _ H5 (fun _ _ => False) I5 (stat I5 n5) st5 stop) fun r s6 hr6 => ?_
      obtain ⟨rfl, I6⟩ := hr6
      have I7 : Inv X pins σ H5 s6 := Ib.call' (ch := fp) I6.os I6.base I6.hok I6.bare fun b hm =>
        ⟨(fb b hm).1.2.2.2.1, (fb b hm).1.2.1, (fb b hm).1.2.2.2.2.1, (fb b hm).1.2.2.2.2.2⟩
      have nC : H5 C = none := by
        rw [← eL]
        exact I6.free
      obtain ⟨m, hn, _⟩ := I6.loc
      have hn : s6.heap.Ns ce.locals m := hn
      rw [eL] at hn
      exact back D C s6 m H5 I7 fin hn (Ib.fpOk (Nat.le_of_eq eC) nC)
    · refine thnF (T.item (X.blk sb Hb scope ce fp) rfl rfl rfl calm i [] s5 _ H5 (fun _ _ => False) I5 (stat I5 n5) st5 go) fun r s6 hr6 => ?_
      obtain ⟨u, rfl, h6⟩ := hr6
      refine thnF h6 fun _ s7 h7 => ?_
      obtain ⟨x, H7, I7, r7, y7, st7, n7⟩ := h7
      have P7 := I7.pinned (stat I7 n7) (T.obj _ _ st7)
      refine thnF (pg.run _ s7 _ H7 x u _ P7 r7 (step x H7 y7)) fun _ s8 h8 => ?_
      obtain ⟨σ8, H8, I8, same8, q8⟩ := h8
      have turnEnd : ∀ {r : Shared} {G : Hp}, Inv (X.blk sb Hb scope ce fp) ([] ++ pinsAt fp s7.heap) σ8 G r → R G →
          ∃ m, m < n ∧ ∃ i G, Inv (X.blk sb Hb scope ce fp) [] (wipe σ (own.map (·.2))) G r ∧ at_ i r.heap ∧ (∀ b ∈ fp, G b = none) ∧ W i m G := fun {r G} J rG => by
        obtain ⟨m', lt, w'⟩ := hR G rG
        have pin : ∀ b ∈ fp, ∀ o, s7.heap.get? b = some o → r.heap.get? b = some o ∧ G b = none := fun b hm o e => by
          have z := J.pin (b, o) (List.mem_append_right _ (List.mem_append_right _ (mem_pinsAt hm e)))
          exact ⟨z.1, z.2.1⟩
        have len : (wipe σ (own.map (·.2))).length = σ8.length := by
          rw [← same8]
          exact wipe_length _ _
        refine ⟨m', lt, i + 1, G, (J.unpinned (pins := [])).weak len (fun j v e => ?_), T.keep _ _ _ st7 fun b hm o e => (pin b hm o e).1, fun b hm => ?_, w'⟩
        · rw [← same8] at e
          exact (wipe_some e).1
        · obtain ⟨o, e, _⟩ := T.obj _ _ st7 b hm
          exact (pin b hm o e).2
      refine thnF (pt.run _ s8 σ8 H8 _ I8 q8) fun b s9 h9 => ?_
      obtain ⟨H9, I9, q9⟩ := h9
      cases b with
      | false =>
        rw [if_neg Bool.false_ne_true] at q9
        simp only [Bool.false_eq_true, if_false]
        exact turnEnd I9 q9
      | true =>
        rw [if_pos rfl] at q9
        simp only [if_true]
        refine thnF (pe.run _ s9 σ8 H9 _ I9 q9) fun z s10 h10 => ?_
        obtain ⟨yv, H10, I10, r10, q10⟩ := h10
        refine thnF (add_int (X := X.blk sb Hb scope ce fp) (E := fun _ _ => False) I10 r10 q10) fun _ s11 h11 => ?_
        obtain ⟨H11, I11, q11⟩ := h11
        exact turnEnd I11 q11
  exact PpSet.codeAny_compStart_set loop (T.self X.A 0 _ _ _ stc loop)
/-- as a value -/
theorem pe_scI {elt tg iter : Expr} {ifs : List Expr} {scope : Scope} {own : List (PySem.Str × Nat)} {pos : Pos} {wi : TI} {g : TG} {tt : TT} {te : TE} (calm : X.calm = true) (nd : X.N.Nodup) (hi : PI X tg iter wi) (ok : BlkOk X.N X.env.scope scope own)
    (hg : ∀ (s : Shared) (H : Hp) (C : Addr) (cl : List (PySem.Str × Addr)) (fp : List Addr), PG (X.blk s H scope (compEnvC scope cl C X.env) fp) tg g)
    (ht : ∀ (s : Shared) (H : Hp) (C : Addr) (cl : List (PySem.Str × Addr)) (fp : List Addr), PTs (X.blk s H scope (compEnvC scope cl C X.env) fp) ifs tt)
    (he : ∀ (s : Shared) (H : Hp) (C : Addr) (cl : List (PySem.Str × Addr)) (fp : List Addr), PE (X.blk s H scope (compEnvC scope cl C X.env) fp) elt te)
    (plain : ∀ x, foldedSetIterable iter X.env x = pure x := by intro _; rfl) :
    PE X (.SetComp elt [⟨tg, iter, ifs, 0⟩] scope pos) (tScI X.w wi g tt te (own.map (·.2))) := by
  refine ⟨fun pins s σ H Q I h => ?_⟩
  rw [PpSet.eval_SetComp]
  refine scI_core calm nd I hi ok hg ht he plain h fun D C s' m H' J q hn f => ⟨m, hn, fun h'' sbut => ?_⟩
  obtain ⟨f0, f1, _, f3, f4, f5⟩ := f
  exact ⟨.ref D, H', J.turned (t' := s'.toks) (fun b o hb e => (sbut.2 b hb).trans e) f0 f1 f3 f4 f5, rfl, q⟩
end
theorem r_scI {w : World} {wi : TI} {g : TG} {tt : TT} {te : TE} {vs : List Nat} {σ : L2.St} {H : Hp} {Q : VK} (h : wi σ H fun J H1 => ∀ D, H1 D = none → ∃ W : Nat → Nat → Hp → Prop, (∃ m, W 0 m (upd H1 D (SetO w D noInts 0))) ∧ ∀ i m H, W i m H →
    (J.stop i H ∧ Q (.ref D) H) ∨ (J.go i H ∧ ∃ R : Hp → Prop, (∀ H', R H' → ∃ m', m' < m ∧ W (i + 1) m' H') ∧ ∀ x H', J.yld i H x H' → turnI w D vs σ g tt te x H' R)) : tScI w wi g tt te vs σ H Q := h
/-- over a tuple -/
theorem scI_tup {w : World} {K : PySem.W.Frag} {a : Addr} {xs : List V} {g : TG} {tt : TT} {te : TE} {vs : List Nat} {σ : L2.St} {H1 : Hp} {D : Addr} {Qd : Hp → Prop} (Pv : Nat → Hp → Prop) (h0 : Pv 0 (upd H1 D (SetO w D noInts 0)))
    (hl : ∀ i H, i ≤ xs.length → Pv i H → SqT K H a xs) (hs : ∀ i x H, xs[i]? = some x → Pv i H → turnI w D vs σ g tt te x H (Pv (i + 1))) (hd : ∀ H, Pv xs.length H → Qd H) :
    ∃ W : Nat → Nat → Hp → Prop, (∃ m, W 0 m (upd H1 D (SetO w D noInts 0))) ∧ ∀ i m H, W i m H →
      ((Itt K a).stop i H ∧ Qd H) ∨ ((Itt K a).go i H ∧ ∃ R : Hp → Prop, (∀ H', R H' → ∃ m', m' < m ∧ W (i + 1) m' H') ∧ ∀ x H', (Itt K a).yld i H x H' → turnI w D vs σ g tt te x H' R) := by
  refine ⟨fun i m H => m = xs.length - i ∧ i ≤ xs.length ∧ Pv i H, ⟨xs.length, by simp, Nat.zero_le _, h0⟩, ?_⟩
  rintro i m H ⟨rfl, hi, p⟩
  have q := hl i H hi p
  by_cases lt : i < xs.length
  · refine .inr ⟨⟨xs, xs[i], q, by simp [lt]⟩, Pv (i + 1), fun H' p' => ⟨xs.length - (i + 1), by omega, rfl, lt, p'⟩, fun x H' y => ?_⟩
    obtain ⟨rfl, y⟩ := y
    exact hs i x _ (y xs q) p
  · obtain rfl : i = xs.length := by omega
    exact .inl ⟨⟨xs, q, Nat.le_refl _⟩, hd H p⟩
/-! ### the members of a lot, ascending -/
def normL (n : Nat) (xs : List Nat) : List Nat := (List.range n).filter fun k => decide (k ∈ xs)
theorem normL_mem {n k : Nat} {xs : List Nat} (h : ∀ x ∈ xs, x < n) : k ∈ normL n xs ↔ k ∈ xs := by
  unfold normL
  rw [List.mem_filter, List.mem_range, decide_eq_true_eq]
  exact ⟨fun z => z.2, fun z => ⟨h k z, z⟩⟩
theorem normL_lt {n : Nat} {xs : List Nat} : ∀ k ∈ normL n xs, k < n := fun k hk => by
  unfold normL at hk
  exact List.mem_range.mp (List.mem_filter.mp hk).1
theorem normL_sorted (n : Nat) (xs : List Nat) : (normL n xs).Pairwise (· < ·) := List.Pairwise.filter _ List.pairwise_lt_range
theorem normL_len (n : Nat) (xs : List Nat) : (normL n xs).length ≤ n := by
  have := List.length_filter_le (fun k => decide (k ∈ xs)) (List.range n)
  rw [List.length_range] at this
  exact this
theorem strict_eq : ∀ {a b : List Int}, a.Pairwise (· < ·) → b.Pairwise (· < ·) → (∀ k, k ∈ a ↔ k ∈ b) → a = b
  | [], [], _, _, _ => rfl
  | [], y :: b, _, _, h => nomatch (h y).mpr List.mem_cons_self
  | x :: a, [], _, _, h => nomatch (h x).mp List.mem_cons_self
  | x :: a, y :: b, ha, hb, h => by
    obtain ⟨a1, a2⟩ := List.pairwise_cons.mp ha
    obtain ⟨b1, b2⟩ := List.pairwise_cons.mp hb
    have e : x = y := by
      rcases List.mem_cons.mp ((h x).mp List.mem_cons_self) with e | e
      · exact e
      · rcases List.mem_cons.mp ((h y).mpr List.mem_cons_self) with e2 | e2
        · exact e2.symm
        · have := a1 y e2
          have := b1 x e
          omega
    subst e
    rw [strict_eq a2 b2 fun k => ⟨fun hk => (List.mem_cons.mp ((h k).mp (List.mem_cons_of_mem _ hk))).resolve_left fun z => by
      have := a1 k hk
      omega, fun hk => (List.mem_cons.mp ((h k).mpr (List.mem_cons_of_mem _ hk))).resolve_left fun z => by
      have := b1 k hk
      omega⟩]
theorem norm_ints {n : Nat} {xs : List Nat} {ns : List Int} (pw : ns.Pairwise (· < ·)) (hm : ∀ k : Int, k ∈ ns ↔ ∃ y ∈ xs, k = (y : Int)) (hb : ∀ y ∈ xs, y < n) : ns.map V.int = (normL n xs).map iV := by
  have e : ns = (normL n xs).map fun k : Nat => (k : Int) := by
    refine strict_eq pw ?_ fun k => ?_
    · rw [List.pairwise_map]
      exact (normL_sorted n xs).imp fun h => by omega
    · rw [hm, List.mem_map]
      exact ⟨fun ⟨y, h1, h2⟩ => ⟨y, (normL_mem hb).mpr h1, h2.symm⟩, fun ⟨y, h1, h2⟩ => ⟨y, (normL_mem hb).mp h1, h2.symm⟩⟩
  rw [e, List.map_map]
  rfl
theorem normL_self {n : Nat} {xs : List Nat} (hs : xs.Pairwise (· < ·)) (hb : ∀ x ∈ xs, x < n) : normL n xs = xs := by
  have e : (normL n xs).map (fun k : Nat => (k : Int)) = xs.map fun k : Nat => (k : Int) := by
    refine strict_eq ?_ ?_ fun k => ?_
    · rw [List.pairwise_map]
      exact (normL_sorted n xs).imp fun h => by omega
    · rw [List.pairwise_map]
      exact hs.imp fun h => by omega
    · rw [List.mem_map, List.mem_map]
      exact ⟨fun ⟨y, h1, h2⟩ => ⟨y, (normL_mem hb).mp h1, h2⟩, fun ⟨y, h1, h2⟩ => ⟨y, (normL_mem hb).mpr h1, h2⟩⟩
  exact (List.map_inj_right fun a b h => by omega).mp e
theorem normL_map {n : Nat} {xs : List Nat} {f : Nat → Nat} (hx : ∀ x ∈ xs, x < n) : normL n ((normL n xs).map f) = normL n (xs.map f) := by
  unfold normL
  refine List.filter_congr fun k _ => ?_
  refine decide_eq_decide.mpr ?_
  rw [List.mem_map, List.mem_map]
  exact ⟨fun ⟨y, h1, h2⟩ => ⟨y, (normL_mem hx).mp h1, h2⟩, fun ⟨y, h1, h2⟩ => ⟨y, (normL_mem hx).mpr h1, h2⟩⟩
end G
set_option Elab.async false
set_option linter.all false
set_option maxRecDepth 100000
set_option maxHeartbeats 4000000
namespace G
open PySem PySem.Spec PyProof.Rows L2
/-! ### set(xs), xs a list of ints -/
abbrev newSetO (w : World) : Obj := { cls := .type "set", dict := none, data := .set #[] 0 (.fresh 0 0 (!w.params.followText "set-order")) }
section
variable {P : Program} {w : World} {A : Around} {E : Value → Shared → Prop} {s : Shared}
theorem set_of_list {l : Addr} {its : Array Value} (ns : List Int) {Q : Value → Shared → Prop} (calm : A.handled = none) (hl : s.heap.IsList l its) (hit : IntsAre its.toList ns) (few : ns.length + 1 < scanBound)
    (h : ∀ (h' : Heap) (tk c : Nat), SetR w h' s.heap.objs.size (fun j => decide (j ∈ ns)) c → c ≤ ns.length → (∀ b o, s.heap.get? b = some o → h'.get? b = some o) →
      Q (.ref s.heap.objs.size) { s with heap := h', toks := tk }) :
    wpAny (model P w) A (call (.type "set") [.ref l]) Q E s := by
  have lens : its.size = ns.length := (Array.length_toList (xs := its)).symm.trans (IntsAre.length hit)
  have k0 := F.called_set.mro
  obtain ⟨mc, mtl, k0⟩ := k0
  have k1 := F.called_set.made
  have k2 := F.called_set.sub
  have k3 := F.called_set.notType
  have k4 := F.called_set.canCreate
  have k5 := F.typeCall_set_1 (.ref l)
  refine wpAny_call (codeAny_of_tree (show wpAny _ _ (callAny (.type "set") _) _ _ _ from ?_))
  refine wpAny_pure (And.intro (Code.quiet_builtin _ (by decide +kernel)) (codeAny_builtin F.entry_type_call ?_))
  rw [Around.under_plain (weight_type_call_type "set" [Value.ref l] []) rfl]
  repeat any_goals (first | assumption | wp_step)
  refine codeAny_mono (code_set_led1 (.ref l) (E := E)
    (Q₁ := fun obj s₁ => obj = .ref s.heap.objs.size ∧ s₁ = { s with heap := s.heap.push (newSetO w) }) (And.intro rfl rfl)) fun r s₁ hr => ?_
  cases r with
  | error e => exact hr
  | ok fl =>
    cases fl with
    | ret obj =>
      obtain ⟨eo, es⟩ := hr
      subst eo es
      have atS : (s.heap.push (newSetO w)).get? s.heap.objs.size = some (newSetO w) := Heap.get?_push_size _ rfl
      have isT : Shared.TypeIs { s with heap := s.heap.push (newSetO w) } (.ref s.heap.objs.size) "set" := ⟨_, atS, rfl⟩
      have j1 := F.called_set.init.lookup
      have j2 := F.called_set.init.bind (Value.ref s.heap.objs.size)
      repeat any_goals (first | assumption | wp_step)
      refine codeAny_mono (codeAny_call_builtin
        (R := wants (fun r s₂ => r = .none ∧ ∃ h' tk c, s₂ = { s with heap := h', toks := tk } ∧ SetR w h' s.heap.objs.size (fun j => decide (j ∈ ns)) c ∧ c ≤ ns.length ∧ ∀ b o, s.heap.get? b = some o → h'.get? b = some o) E)
        F.called_set.init.plain F.entry_set_init (check_set_init_1 isT ?_)) fun r₂ s₂ hr₂ => ?_
      · obtain ⟨ol, atL, e1, nl, e2⟩ := hl
        obtain ⟨lc, ld, ldt, lsl⟩ := ol
        dsimp only at e1 e2
        subst e1 e2
        have atL1 : (s.heap.push (newSetO w)).get? l = some { cls := .type "list", dict := ld, data := .seq its nl, slots := lsl } := Heap.get?_push_of_some _ atL
        have n1 := F.sub_list_set
        have n2 := F.sub_list_frozenset
        have n3 : (Value.type "list" == Value.type "dict") = false := by decide
        have isL1 : (s.heap.push (newSetO w)).IsList l its := ⟨_, atL1, rfl, nl, rfl⟩
        unfold Builtin.«set.__init__» noKeywords Builtin.Frozenset.updateFrom
        generalize ePI : pyIter = PI
        wp_walk
        subst ePI
        refine wpAny_pyIter_list isL1 (wpAny_bind (wpAny_runValue ?_))
        have ltL : l < s.heap.objs.size := Heap.lt_size atL
        have sz : (s.heap.push (newSetO w)).objs.size = s.heap.objs.size + 1 := Heap.size_push ..
        have calm3 : A.in1.in1.in1.handled = none := calm
        have apart : s.heap.objs.size ∉ [(s.heap.push (newSetO w)).objs.size, l] := fun z => by
          rw [sz] at z
          rcases List.mem_cons.mp z with z | z
          · exact absurd z (Nat.ne_of_lt (Nat.lt_succ_self _))
          · exact absurd (List.mem_singleton.mp z) (Nat.ne_of_gt ltL)
        have notI : l ≠ (s.heap.push (newSetO w)).objs.size := by
          rw [sz]
          exact Nat.ne_of_lt (Nat.lt_succ_of_lt ltL)
        refine set_update_ints ((Walks.list calm3 _ l notI its).toS) s.heap.objs.size apart ns lens few (fun i v hv => ?_) (its.size - 0) 0 _ (by omega) (Nat.zero_le _)
          ⟨⟨_, Heap.get?_push_size _ rfl, rfl, rfl⟩, isL1.push _⟩ ?start ?stop
        · have hi : i < ns.length := lens ▸ (Array.getElem?_eq_some_iff.mp hv).1
          obtain ⟨t, e⟩ := PyProof.Rows.IntsAre.int_at hit i v ((Array.getElem?_toList (xs := its)).trans hv)
          exact ⟨ns[i], t, List.getElem?_eq_getElem hi, by rw [e, List.getD_eq_getElem?_getD, List.getElem?_eq_getElem hi] <;> rfl⟩
        case start => exact ⟨0, Nat.le_refl 0, setR_new_at (Heap.get?_push_of_some _ atS)⟩
        case stop =>
          intro s' c' hm hc' hS'
          obtain ⟨h2, g2, d2, t2, o2⟩ := s'
          obtain rfl : g2 = s.gens := hm.gens
          obtain rfl : d2 = s.drawn := hm.drawn
          obtain rfl : o2 = s.os := hm.os
          refine wpAny_pure (show wpAny _ _ (ret Value.none) _ _ _ from wpAny_pure ⟨rfl, h2, t2, c', rfl, hS', lens ▸ hc', fun b o e => ?_⟩)
          have lt := Heap.lt_size e
          refine hm.heap b o (fun z => ?_) (Heap.get?_push_of_some _ (Heap.get?_push_of_some _ e))
          rcases List.mem_cons.mp z with z | z
          · exact Nat.ne_of_lt lt z
          · rw [sz] at z
            exact Nat.ne_of_lt (Nat.lt_succ_of_lt lt) (List.mem_singleton.mp z)
      · cases r₂ with
        | error e => exact hr₂
        | ok f2 =>
          cases f2 with
          | ret u =>
            obtain ⟨rfl, h', tk, c', rfl, a1, a2, a3⟩ := hr₂
            repeat any_goals (first | assumption | wp_step)
            exact h h' tk c' a1 a2 a3
          | next => exact hr₂.elim
          | brk => exact hr₂.elim
          | cont => exact hr₂.elim
    | next => exact hr.elim
    | brk => exact hr.elim
    | cont => exact hr.elim
end
def rSetL (K : PySem.W.Frag) (w : World) : List V → Hp → VK → Prop := fun xs H Q => ∃ (l : Addr) (ns : List Int), xs = [.ref l] ∧ SqL K H l (ns.map V.int) ∧ ns.length ≤ 1000 ∧
  ∀ (p : Addr) (c : Nat), c ≤ ns.length → H p = none → Q (.ref p) (upd H p (SetO w p (fun j => decide (j ∈ ns)) c))
theorem cr_setL {X : Cx} {K : PySem.W.Frag} (hK : X.K = K) (hc : X.calm = true) : CallR X (.type "set") (rSetL K X.w) := by
  subst hK
  rintro pins s σ H xs us Q I rs ⟨l, ns, rfl, hs, few, q⟩
  rw [Vals.ref1 rs]
  obtain ⟨its, rv, hl, hz⟩ := I.list hs
  refine set_of_list ns (I.ok.hd hc) hl.isList (by simpa using ints_of_vals rv) (by unfold scanBound; omega) fun h' tk c hS hc keep => ?_
  have hn := I.hok.fresh (Nat.le_refl _)
  exact ⟨.ref s.heap.objs.size, _, I.laid keep (Nat.le_refl _) (setO_new hS), rfl, q _ c hc hn⟩
end G
set_option Elab.async false
set_option linter.all false
set_option maxRecDepth 100000
set_option maxHeartbeats 4000000
namespace G
open PySem PySem.Spec PyProof.Rows L2
/-! ### own errors -/
abbrev veB : List Value := [.type "ValueError", .type "Exception", .type "BaseException", .type "object"]
/-- what is known of an own error class, under ValueError or another own one -/
structure OwnE (K : PySem.W.Frag) (mg : Str → Option Value) (x : Str) (C : Addr) : Prop where
  g : mg x = some (.ref C)
  x : PySem.W.excIn K C veB "ValueError.__new__" = true
  k : PySem.W.keepIn K (.ref C) = true
  s : PySem.W.subIn K (.ref C) (.type "BaseException") = some true
  t : PySem.W.typeIn K (.ref C) = some (.type "type")
  e : ExcC K C
def excCB (K : PySem.W.Frag) (D : Addr) : Bool :=
  decide (PySem.W.findIn K (.ref D) "__getattribute__" = some (some (.builtin "BaseException.__getattribute__"))) && (decide (PySem.W.findIn K (.ref D) "__getattr__" = some none) && (decide (PySem.W.subIn K (.ref D) (.type "BaseException") = some true) && (PySem.W.hasDictIn K D &&
  (decide (PySem.W.findIn K (.ref D) "__class__" = some (some (.builtin "object.__class__"))) && (decide (PySem.W.specialIn K (.builtin "object.__class__") "__get__" = some (some (.builtin "getset_descriptor.__get__"))) && (decide (PySem.W.takesIn K (.builtin "object.__class__") = some true) && decide (PySem.W.mroIn K D (.type "object") = some true)))))))
theorem excCB_ok {K : PySem.W.Frag} {D : Addr} (h : excCB K D = true) : ExcC K D := by
  unfold excCB at h
  simp only [Bool.and_eq_true, decide_eq_true_eq] at h
  obtain ⟨a1, a2, a3, a4, a5, a6, a7, a8⟩ := h
  exact ⟨a1, a2, a3, a4, a5, a6, a7, a8⟩
/-- raise C(e) -/
def tRaise1 (C : Addr) (W : WX) (ta : TE) : TS := fun _ σ H => ta σ H fun _ H1 => W (.ref C) none σ H1
section
variable {X : Cx}
theorem ps_raise1 {K : PySem.W.Frag} {mg : Str → Option Value} {C : Addr} {x : Str} {e : Expr} {ta : TE} {W : WX} {p pos pos2 : Pos} (O : OwnE K mg x C) (hK : X.K = K) (hmg : X.mg = mg) (hc : X.calm = true) (tk : Takes X W) (hg : Gl X x) (he : PE X e ta)
    (hs : starEach [e] X.env = (false, eval e X.env) :: starEach [] X.env := by rfl) (hdb : (x == ("__debug__" : Str)) = false := by decide) :
    PS X (.Raise (some (.Call (.Name x p) [e] [] pos)) none pos2) (tRaise1 C W ta) := by
  subst hK hmg
  exact ps_raise hc tk (SkE.pmk_own1 PySem.F.excBase_ValueError O.x O.g O.k (raises_own O.s O.t) hg he hs hdb)
theorem r_raise1 {C : Addr} {W : WX} {ta : TE} {D : Ends} {σ : L2.St} {H : Hp} (h : ta σ H fun _ H1 => W (.ref C) none σ H1) : tRaise1 C W ta D σ H := h
theorem r_callS {sp : Sp} {E : L2.St → XK} {t : TA} {σ : L2.St} {H : Hp} {Q : VK} (h : t σ H fun vs H1 => sp vs H1 Q (E σ)) : tCallS sp E t σ H Q := h
/-- isinstance(e, c), e the error that the suite holds -/
def rIsEx (K : PySem.W.Frag) (a : Addr) (cls : Value) (d : Option Addr) : List V → Hp → VK → Prop := fun xs H Q => ∃ D, cls = .ref D ∧ d = none ∧ ExcC K D ∧ rIsE K D a xs H Q
theorem call_isEx {a : Addr} {oe : Obj} {cls : Value} {d : Option Addr} {pn : List (Addr × Obj)} (hz : Zc cls d oe) (hf : ∃ vs, oe.data = .fields vs) : CallR (X.suite a ((a, oe) :: pn)) (.builtin "isinstance") (rIsEx X.K a cls d) := by
  intro pins s σ H xs us Q I r h
  obtain ⟨D, rfl, rfl, hE, q⟩ := h
  exact call_isE hE hz hf pins s σ H xs us Q I r q
theorem r_isEx {K : PySem.W.Frag} {a D : Addr} {c : V} {cv : Value} {b : Bool} {H : Hp} {Q : VK} (hE : ExcC K D) (hc : ∀ u, RelV c u → u = cv) (k : PySem.W.kitOne K (.ref D) cv = some b) (q : Q (.bl b) H) : rIsEx K a (.ref D) none [.ref a, c] H Q :=
  ⟨D, rfl, rfl, hE, c, cv, b, rfl, hc, k, q⟩
/-- try: .. except C as n: .. -/
def tTryAs (K : PySem.W.Frag) (c : Value) (i : Nat) (tb : WX → TS) (ts : Addr → Value → Option Addr → TS) (Wout : WX) : TS := fun D σ H => tb (wAs K c i ts Wout D) D σ H
theorem r_tryAs {K : PySem.W.Frag} {c : Value} {i : Nat} {tb : WX → TS} {ts : Addr → Value → Option Addr → TS} {Wout : WX} {D : Ends} {σ : L2.St} {H : Hp} (h : tb (wAs K c i ts Wout D) D σ H) : tTryAs K c i tb ts Wout D σ H := h
theorem ps_tryAs {x n : Str} {c : Value} {i : Nat} {body suite : List Stmt} {b₀ : Stmt} {np pos pos' : Pos} {tb : WX → TS} {ts : Addr → Value → Option Addr → TS} {Wout : WX} (hs : X.stack = X.env :: X.outer) (hf : X.env.frame = some X.env.locals) (hN : X.N.Nodup) (hi : X.N[i]? = some n) (hln : X.env.kindOf n = some .local) (hc : Names X x c) (tk : Takes X Wout)
    (hb : ∀ (W : WX) (pn : List (Addr × Obj)) (xe : Value → Shared → Prop), Takes (X.tr pn xe) W → PassesOwn (model X.prog X.w) X.A X.env xe → PSs (X.tr pn xe) body (tb W))
    (hsu : ∀ (a : Addr) (oe : Obj) (cls : Value) (d : Option Addr) (pn : List (Addr × Obj)), Zc cls d oe → (∃ vs, oe.data = .fields vs) → PSs (X.suite a ((a, oe) :: pn)) (b₀ :: suite) (ts a cls d)) :
    PS X (.Try body [.ExceptHandler (some (.Name x np)) (some n) (b₀ :: suite) pos'] [] [] pos) (tTryAs X.K c i tb ts Wout) := ps_try_as hs hf hN hi hln hc tk hb hsu
end
/-! ### f-strings whose text nobody asks for -/
section
variable {σ : L2.St} {H : Hp}
def Part (σ : L2.St) (H : Hp) (t : TE) : Prop := ∀ Q : VK, (∀ y : Str, y.length ≤ 2000 → Q (.str y) H) → t σ H Q
theorem part_c {z : Str} (h : z.length ≤ 2000) : Part σ H (tC (.str z)) := fun _ q => r_c (q z h)
theorem part_i {te : TE} {i : Int} (hi : i.natAbs.log2 < 1920) (h : ∀ Q : VK, Q (.int i) H → te σ H Q) : Part σ H (tFmt te) := fun Q q =>
  h (fun x H1 => (∃ y, x = .str y ∧ y.length ≤ sizeLine ∧ Q (.str y) H1) ∨ ∃ i, x = .int i ∧ i.natAbs.log2 < 1920 ∧ Q (.str (Str.ofString (toString i))) H1)
    (.inr ⟨i, rfl, hi, q _ (Nat.le_trans (PyProof.Rows.int_text_len_1921 hi) (by decide))⟩)
theorem js_ok {R : Str → Hp → Prop} : ∀ (ts : List TE) (acc : Str), (∀ t ∈ ts, Part σ H t) → acc.length + 2000 * ts.length ≤ 100000 → (∀ out, R out H) → tJs ts acc σ H R
  | [], acc, _, _, r => r acc
  | t :: ts, acc, hp, hl, r => by
    refine hp t List.mem_cons_self _ fun y hy => ?_
    have e : (acc ++ y).length = acc.length + y.length := by
      show (acc.cps ++ y.cps).size = acc.cps.size + y.cps.size
      exact Array.size_append
    rw [List.length_cons] at hl
    have zl : (sizeLine : Nat) = 16777216 := by decide
    exact ⟨y, rfl, by rw [e]; omega, js_ok ts _ (fun t ht => hp t (List.mem_cons_of_mem _ ht)) (by rw [e]; omega) r⟩
end
theorem log_lt {i : Int} (h : i.natAbs < 1000000) : i.natAbs.log2 < 1920 := by
  rcases Nat.eq_zero_or_pos i.natAbs with e | e
  · rw [e]; decide
  · have e2 : i.natAbs.log2 < 20 := (Nat.log2_lt (by omega)).mpr (Nat.lt_of_lt_of_le h (by decide))
    omega
/-! ### enumerate of a list -/
theorem for_enL {K : PySem.W.Frag} {a : Addr} {xs : List V} {g : TG} {tb : TS} {D : Ends} {σ : L2.St} {H : Hp} (Pv : Nat → L2.St → Hp → Prop) (h0 : Pv 0 σ H) (hl : ∀ i σ H, i ≤ xs.length → Pv i σ H → SqL K H a xs)
    (hs : ∀ i x σ H T, xs[i]? = some x → Pv i σ H → H T = none → g (.ref T) σ (upd H T (.tup [.int (i : Nat), x])) fun σ2 H2 => tb { D with nx := Pv (i + 1), ct := Pv (i + 1), bk := D.nx } σ2 H2) (hd : ∀ σ H, Pv xs.length σ H → D.nx σ H) :
    ∃ W : Nat → Nat → L2.St → Hp → Prop, (∃ m, W 0 m σ H) ∧ ∀ i m σ H, W i m σ H → ((Ite K a).stop i H ∧ D.nx σ H) ∨
      ((Ite K a).go i H ∧ ∃ N : L2.St → Hp → Prop, (∀ σ' H', N σ' H' → ∃ m', m' < m ∧ W (i + 1) m' σ' H') ∧ ∀ x H', (Ite K a).yld i H x H' → g x σ H' fun σ2 H2 => tb { D with nx := N, ct := N, bk := D.nx } σ2 H2) := by
  refine ⟨fun i m σ H => m + i = xs.length ∧ Pv i σ H, ⟨xs.length, rfl, h0⟩, ?_⟩
  rintro i m σ H ⟨hm, p⟩
  have q := hl i σ H (by omega) p
  by_cases hlt : i < xs.length
  · refine .inr ⟨⟨xs, xs[i], q, List.getElem?_eq_getElem hlt⟩, Pv (i + 1), fun σ' H' p' => ⟨m - 1, by omega, by omega, p'⟩, ?_⟩
    rintro v H' ⟨T, x, rfl, hT, rfl, hx⟩
    exact hs i x σ H T (hx xs q) p hT
  · have e : i = xs.length := by omega
    subst e
    exact .inl ⟨⟨xs, q, Nat.le_refl _⟩, hd σ H p⟩
theorem pi_enumK {X : Cx} {K : PySem.W.Frag} {e : Expr} {ta : TA} {p pos tpos : Pos} {elts : List Expr} {kk : Nat} (hK : X.K = K) (hg : Gl X "enumerate") (hm : X.mg "enumerate" = none) (ha : PA X [e] ta) (hs : starEach [e] X.env = [(false, eval e X.env)] := by rfl) :
    PI X (.Tuple elts kk tpos) (.Call (.Name "enumerate" p) [e] [] pos) (iEnum K ta) := hK ▸ pi_enum hg hm ha hs
theorem r_iEnum {K : PySem.W.Frag} {ta : TA} {σ : L2.St} {H : Hp} {R : It → Hp → Prop} (h : ta σ H fun vs H1 => ∃ a xs, vs = [.ref a] ∧ SqL K H1 a xs ∧ R (Ite K a) H1) : iEnum K ta σ H R := h
/-! ### lists of lists of ints -/
def refsI (ps : List (Addr × List Int)) : List V := ps.map fun p => V.ref p.1
theorem refsI_len (ps : List (Addr × List Int)) : (refsI ps).length = ps.length := List.length_map _
theorem refsI_at {ps : List (Addr × List Int)} {i : Nat} {x : V} (h : (refsI ps)[i]? = some x) : ∃ p, ps[i]? = some p ∧ V.ref p.1 = x := by
  unfold refsI at h
  rw [List.getElem?_map] at h
  exact Option.map_eq_some_iff.mp h
theorem at_refsI {ps : List (Addr × List Int)} {z : Int} {i : Nat} {p : Addr × List Int} (e : z = (i : Int)) (h : ps[i]? = some p) : atI (refsI ps) z = some (.ref p.1) := by
  refine at_of e ?_
  unfold refsI
  rw [List.getElem?_map, h]
  rfl
theorem ints_at {xs : List Int} {i : Nat} {x : V} (h : (xs.map V.int)[i]? = some x) : ∃ z, xs[i]? = some z ∧ V.int z = x := by
  rw [List.getElem?_map] at h
  exact Option.map_eq_some_iff.mp h
/-! ### the world named -/
theorem cr_setLw {X : Cx} {K : PySem.W.Frag} {w : World} (hK : X.K = K) (hw : X.w = w) (hc : X.calm = true) : CallR X (.type "set") (_root_.G.rSetL K w) := hw ▸ cr_setL hK hc
theorem cr_sortedSetW {X : Cx} {w : World} (hw : X.w = w) (hc : X.calm = true) : CallR X (.builtin "sorted") (rSortedSet w) := hw ▸ cr_sortedSet hc
end G
set_option Elab.async false
set_option linter.all false
set_option maxRecDepth 100000
set_option maxHeartbeats 4000000
namespace G
open PySem PySem.Spec PyProof.Rows L2
/-! enumerate of a tuple -/
theorem en_new (l : Addr) (items : Array Value) (n : Nat) (dct : Option Addr) (sl : Array (Option Value)) :
    Meets (Builtin.«enumerate.__new__» ⟨[.type "enumerate", .ref l], []⟩) (fun _ R s =>
      s.heap.get? l = some { cls := .type "tuple", dict := dct, data := .seq items n, slots := sl } ∧
      R (.ok (.ret (.ref (s.heap.push { cls := .type "tuple_iterator", data := .fields #[.ref l, .int 0 0] }).objs.size)))
        { s with heap := (s.heap.push { cls := .type "tuple_iterator", data := .fields #[.ref l, .int 0 0] }).push { cls := .type "enumerate", data := .fields #[.none, .bool false, .ref s.heap.objs.size, rawInt 0, .none, .none] } }) :=
  .of_wp fun prog w A R s h => by
    obtain ⟨hp, g, d, tk, os⟩ := s
    obtain ⟨hl, h⟩ := h
    have hsub := sub_enumerate
    have hT : Heap.IsTuple (Shared.heap ⟨hp, g, d, tk, os⟩) l items := ⟨_, hl, rfl, n, rfl⟩
    (wp_walk using AutoSeq1.wpAny_loadPart' hl); refine wpAny_stack_any fun st => wpAny_pure ?_; split
    · rename_i c _ _ _ _ _
      cases (c == Value.type "enumerate") <;> (wp_walk using AutoSeq1.wpAny_loadPart' hl, wpAny_pyIter_tuple hT) <;> exact ⟨_, rfl, h⟩
    · (wp_walk using AutoSeq1.wpAny_loadPart' hl, wpAny_pyIter_tuple hT); exact ⟨_, rfl, h⟩
section
variable {prog : Program} {w : World} {A : Around} {E : Value → Shared → Prop} {s : Shared}
theorem call_en {l : Addr} {items : Array Value} {Q : Value → Shared → Prop} (hL : s.heap.IsTuple l items)
    (h : ∀ h', IsEnum h' (s.heap.objs.size + 1) s.heap.objs.size 0 .none → h'.IsTupleIter s.heap.objs.size l 0 →
      h'.objs.size = s.heap.objs.size + 2 → (∀ b o, s.heap.get? b = some o → h'.get? b = some o) →
      Q (.ref (s.heap.objs.size + 1)) { s with heap := h' }) : wpAny (model prog w) A (call (.type "enumerate") [.ref l]) Q E s := by
  obtain ⟨⟨c, dct, dt, sl⟩, hl, hc, n, hd⟩ := hL
  obtain rfl : c = .type "tuple" := hc
  obtain rfl : dt = .seq items n := hd
  have hz : (s.heap.push { cls := .type "tuple_iterator", data := .fields #[.ref l, .int 0 0] }).objs.size = s.heap.objs.size + 1 := Heap.size_push ..
  have he := Heap.get?_push_size (s.heap.push { cls := .type "tuple_iterator", data := .fields #[.ref l, .int 0 0] })
    (o := { cls := .type "enumerate", data := .fields #[.none, .bool false, .ref s.heap.objs.size, rawInt 0, .none, .none] }) rfl
  rw [hz] at he
  refine callType_new F.called_enumerate (by decide) (F.typeCall_enumerate_1 _) (F.newCall_enumerate_1 _)
    (fun obj => F.args_object_init_2 obj _) F.entry_enumerate_new (en_new l items n dct sl) ⟨hl, ?_⟩
  show _ ∧ _
  rw [hz]
  refine ⟨⟨_, he, rfl⟩, h _ he ⟨{ cls := .type "tuple_iterator", data := .fields #[.ref l, .int 0 0] }, Heap.get?_push_of_some _ (Heap.get?_push_size _ rfl), rfl, rfl⟩ ?_ ?_⟩
  · rw [Heap.size_push, hz]
  · exact fun b o x => Heap.get?_push_of_some _ (Heap.get?_push_of_some _ x)
end
/-- the tuple at a: each item in a new pair -/
def ItT (K : PySem.W.Frag) (a : Addr) : It where
  go i H := ∃ (xs : List V) (x : V), SqT K H a xs ∧ xs[i]? = some x
  yld i H v H' := ∃ T x, v = .ref T ∧ H T = none ∧ H' = upd H T (.tup [.int (i : Nat), x]) ∧ ∀ xs, SqT K H a xs → xs[i]? = some x
  stop i H := ∃ xs : List V, SqT K H a xs ∧ xs.length = i
theorem turn_T {P : Program} {w : World} {K : PySem.W.Frag} {elts : List Expr} {kk : Nat} {tpos : Pos} (a e it : Addr) :
    Turn P w K (.Tuple elts kk tpos) (ItT K a) [e, it] e (fun i h => (∃ old, IsEnum h e it ((i : Nat) : Int) old) ∧ h.IsTupleIter it a i ∧ e ≠ it) where
  mem := List.mem_cons_self
  obj := by
    rintro i h ⟨⟨old, he⟩, ⟨o, ho, hc, hd⟩, _⟩ b hb
    rcases List.mem_cons.mp hb with rfl | hb
    · exact ⟨_, he, fun v q => nomatch q⟩
    · rw [List.mem_singleton.mp hb]
      exact ⟨o, ho, fun v q => by rw [hd] at q; cases q⟩
  keep := by
    rintro i h h' ⟨⟨old, he⟩, hi, hne⟩ k
    exact ⟨⟨old, k e List.mem_cons_self _ he⟩, hi.at fun o q => k it (List.mem_cons_of_mem _ List.mem_cons_self) o q, hne⟩
  item := by
    rintro X rfl rfl rfl hc i pins s σ H E I hf ⟨⟨old, he⟩, hit, hne⟩ ⟨xs, x, hq, hx⟩
    obtain ⟨its, rv, p, hz⟩ := I.tuple hq
    obtain ⟨u, hu, ru⟩ := rv.get hx
    have hel : e < s.heap.objs.size := Heap.lt_size he
    have hil : it < s.heap.objs.size := by obtain ⟨_, q, _⟩ := hit; exact Heap.lt_size q
    have hae : a ≠ it := fun z => by
      obtain ⟨oi, hoi, hci, _⟩ := hit
      obtain ⟨oa, hoa, hca, _⟩ := p
      rw [z, hoi] at hoa
      cases hoa
      rw [hci] at hca
      injection hca with hca
      exact absurd hca (by decide)
    have hae2 : e ∉ [it, a] := fun z => by
      rcases List.mem_cons.mp z with z | z
      · exact hne z
      · have z := List.mem_singleton.mp z
        obtain ⟨oa, hoa, hca, _⟩ := p
        rw [← z, he] at hoa
        cases hoa
        injection hca with hca
        exact absurd hca (by decide)
    have hh : X.A.in1.handled = none := I.ok.hd hc
    have hi : i < its.toArray.size := by
      have := (List.getElem?_eq_some_iff.mp hu).1
      simpa using this
    refine wpAny_pyNext_enum_itemD (Draws.tuple hh it a hae its.toArray) he ⟨hit, show s.heap.IsTuple a its.toArray from p⟩ hi hne hae2 ?_
    intro x2 h' tk hx2 ho hst hT hsz hk
    have ex : x2 = u := by
      have h3 : its[i]? = some x2 := by simpa using hx2
      rw [hu] at h3
      exact (Option.some.inj h3).symm
    subst ex
    refine ⟨_, rfl, wpAny_letOwnedTupleGo_enum (s := { s with heap := h', toks := tk + 1 }) ho fun h'' he' sb => ?_⟩
    have hT2 : h''.get? s.heap.objs.size = some { cls := .type "tuple", data := .seq #[.int i tk, x2] } := (sb.2 _ (Nat.ne_of_gt hel)).trans hT
    have new : ObjOk X.prog X.w (upd H s.heap.objs.size (.tup [.int (i : Nat), x])) h'' s.heap.objs.size (.tup [.int (i : Nat), x]) := by
      refine ⟨by show 2 ≤ sizeLine; decide, [.int i tk, x2], .cons ⟨_, rfl⟩ (.cons ru .nil), ⟨_, hT2, rfl, _, rfl⟩⟩
    have stays : ∀ b ob, b ∉ [e, it] → s.heap.get? b = some ob → h''.get? b = some ob := fun b ob hb q => by
      have h1 : b ≠ e := fun z => hb (by rw [z]; exact List.mem_cons_self)
      have h2 : b ≠ it := fun z => hb (by rw [z]; exact List.mem_cons_of_mem _ List.mem_cons_self)
      exact (sb.2 b h1).trans (hk b ob h1 h2 q)
    have I1 := I.turnedNew (t' := tk + 1) (ch := [e, it]) stays hf (Nat.le_refl _) new
    have e1 : ((i + 1 : Nat) : Int) = (i : Int) + 1 := Int.natCast_succ i
    refine ⟨.ref s.heap.objs.size, _, I1, rfl, ⟨_, x, rfl, I.hok.fresh (Nat.le_refl _), rfl, fun ys hy => ?_⟩, ⟨⟨x2, ?_⟩, ?_, hne⟩, fun b hb => ?_⟩
    · rw [I.tuple_inj hy hq]
      exact hx
    · rw [e1]
      exact he'
    · exact hst.1.at fun o q => (sb.2 it (Ne.symm hne)).trans q
    · have hb' : b < s.heap.objs.size := by
        rcases List.mem_cons.mp hb with z | z
        · rw [z]; exact hel
        · rw [List.mem_singleton.mp z]; exact hil
      rw [upd_ne (Nat.ne_of_lt hb')]
      exact (hf b hb).1
  done := by
    rintro X rfl rfl rfl hc i pins s σ H E I hf ⟨⟨old, he⟩, hit, hne⟩ ⟨xs, hq, hx⟩
    obtain ⟨its, rv, p, hz⟩ := I.tuple hq
    obtain ⟨f0, f1, f2, f3, f4, f5⟩ := hf it (List.mem_cons_of_mem _ List.mem_cons_self)
    have hl := rv.length
    have hh : X.A.in1.handled = none := I.ok.hd hc
    have hae : a ≠ it := fun z => by
      obtain ⟨oi, hoi, hci, _⟩ := hit
      obtain ⟨oa, hoa, hca, _⟩ := p
      rw [z, hoi] at hoa
      cases hoa
      rw [hci] at hca
      injection hca with hca
      exact absurd hca (by decide)
    have ei : i = its.toArray.size := by rw [List.size_toArray, ← hl, hx]
    rw [ei] at hit
    exact wpAny_pyNext_enum_endD (Draws.tuple hh it a hae its.toArray) he ⟨hit, show s.heap.IsTuple a its.toArray from p⟩ fun h' eb =>
      ⟨rfl, I.turned (t' := s.toks) (fun b o hb q => eb b o hb q) f0 f1 f3 f4 f5⟩
  self := fun A i s Q E st h => by
    obtain ⟨⟨_, he⟩, _⟩ := st
    exact wpAny_pyIter_enum he h
def iEnumT (K : PySem.W.Frag) (ta : TA) : TI := fun σ H R => ta σ H fun vs H1 => ∃ a xs, vs = [.ref a] ∧ SqT K H1 a xs ∧ R (ItT K a) H1
theorem pi_enumT {X : Cx} {K : PySem.W.Frag} {e : Expr} {ta : TA} {p pos tpos : Pos} {elts : List Expr} {kk : Nat} (hK : X.K = K) (hg : Gl X "enumerate") (hm : X.mg "enumerate" = none) (ha : PA X [e] ta)
    (hs : starEach [e] X.env = [(false, eval e X.env)] := by rfl) : PI X (.Tuple elts kk tpos) (.Call (.Name "enumerate" p) [e] [] pos) (iEnumT K ta) := by
  subst hK
  constructor
  intro pins s σ H R I h
  refine Call_ (ld_blt I hg hm boot_enumerate (callWith_type1 (thn (ha.run pos pins s σ H _ I h) ?_) hs rfl))
  rintro us s1 ⟨vs, H1, I1, r1, a, xs, rfl, hq, q⟩
  obtain ⟨u, rfl, ru⟩ := vals1 r1
  cases ru
  obtain ⟨its, rv, p', hz⟩ := I1.tuple hq
  refine call_en (show s1.heap.IsTuple a its.toArray from p') fun h' he hit hsz hk => wpAny_pyIter_enum he ?_
  have I2 : Inv X pins σ H1 { s1 with heap := h' } := I1.kept (t' := s1.toks) hk
  refine ⟨_, [s1.heap.objs.size + 1, s1.heap.objs.size], _, _, H1, rfl, I2, turn_T a (s1.heap.objs.size + 1) s1.heap.objs.size, ⟨⟨.none, he⟩, hit, Nat.succ_ne_self _⟩, fun b hb => ?_, q⟩
  have hle : s1.heap.objs.size ≤ b := by
    rcases List.mem_cons.mp hb with z | z
    · rw [z]; exact Nat.le_add_right _ _
    · rw [List.mem_singleton.mp z]; exact Nat.le_refl _
  exact I1.fpOk hle (I1.hok.fresh hle)
/-- the loop over such pairs, i and x given to two names -/
theorem for_enT {K : PySem.W.Frag} {a : Addr} {xs : List V} {g : TG} {tb : TS} {D : Ends} {σ : L2.St} {H : Hp} (Pv : Nat → L2.St → Hp → Prop) (h0 : Pv 0 σ H) (hl : ∀ i σ H, i ≤ xs.length → Pv i σ H → SqT K H a xs)
    (hs : ∀ i x σ H T, xs[i]? = some x → Pv i σ H → H T = none → g (.ref T) σ (upd H T (.tup [.int (i : Nat), x])) fun σ2 H2 => tb { D with nx := Pv (i + 1), ct := Pv (i + 1), bk := D.nx } σ2 H2) (hd : ∀ σ H, Pv xs.length σ H → D.nx σ H) :
    ∃ W : Nat → Nat → L2.St → Hp → Prop, (∃ m, W 0 m σ H) ∧ ∀ i m σ H, W i m σ H → ((ItT K a).stop i H ∧ D.nx σ H) ∨
      ((ItT K a).go i H ∧ ∃ N : L2.St → Hp → Prop, (∀ σ' H', N σ' H' → ∃ m', m' < m ∧ W (i + 1) m' σ' H') ∧ ∀ x H', (ItT K a).yld i H x H' → g x σ H' fun σ2 H2 => tb { D with nx := N, ct := N, bk := D.nx } σ2 H2) := by
  refine ⟨fun i m σ H => m + i = xs.length ∧ Pv i σ H, ⟨xs.length, rfl, h0⟩, ?_⟩
  rintro i m σ H ⟨hm, p⟩
  have q := hl i σ H (by omega) p
  by_cases hlt : i < xs.length
  · refine .inr ⟨⟨xs, xs[i], q, List.getElem?_eq_getElem hlt⟩, Pv (i + 1), fun σ' H' p' => ⟨m - 1, by omega, by omega, p'⟩, ?_⟩
    rintro v H' ⟨T, x, rfl, hT, rfl, hx⟩
    exact hs i x σ H T (hx xs q) p hT
  · have e : i = xs.length := by omega
    subst e
    exact .inl ⟨⟨xs, q, rfl⟩, hd σ H p⟩
end G
set_option Elab.async false
set_option linter.all false
set_option maxRecDepth 100000
set_option maxHeartbeats 4000000
namespace G
open PySem PySem.Spec PyProof.Rows L2
section
variable {X : Cx} {H : Hp} {Q : VK}
def rLcm : List V → Hp → VK → Prop := fun xs H Q => ∃ a b : Nat, xs = [.int (a : Int), .int (b : Int)] ∧ a < 2 ^ 64 ∧ b < 2 ^ 64 ∧ Q (.int ((Nat.lcm a b : Nat) : Int)) H
theorem call_lcm : CallR X (.builtin "math.lcm") rLcm := by
  intro pins s σ H vs us Q I r h
  obtain ⟨a, b, rfl, ha, hb, q⟩ := h
  obtain ⟨t, u, rfl⟩ := Vals.int2 r
  exact PySem.W.mc_lcm (by rw [Int.natAbs_natCast]; exact ha) (by rw [Int.natAbs_natCast]; exact hb) fun _ => ⟨.int _, H, I.tok _, ⟨_, rfl⟩, q⟩
end
/-! ### permutations -/
structure Perm (n : Nat) (p : List Nat) : Prop where
  len : p.length = n
  lt : ∀ x ∈ p, x < n
  nd : p.Nodup
def at0 (p : List Nat) (i : Nat) : Nat := p.getD i 0
def thenN (p q : List Nat) : List Nat := p.map (at0 q)
def idN (n : Nat) : List Nat := List.range n
def itr (p : List Nat) : Nat → Nat → Nat
  | 0, i => i
  | k + 1, i => at0 p (itr p k i)
def pw (p : List Nat) : Nat → List Nat
  | 0 => idN p.length
  | k + 1 => thenN (pw p k) p
theorem at0_some {p : List Nat} {i : Nat} (h : i < p.length) : p[i]? = some (at0 p i) := by
  unfold at0
  rw [List.getD_eq_getElem?_getD, List.getElem?_eq_getElem h]; rfl
theorem Perm.at_lt {n i : Nat} {p : List Nat} (h : Perm n p) (hi : i < n) : at0 p i < n := h.lt _ (List.mem_of_getElem? (at0_some (by rw [h.len]; exact hi)))
theorem Perm.inj {n i j : Nat} {p : List Nat} (h : Perm n p) (hi : i < n) (hj : j < n) (e : at0 p i = at0 p j) : i = j := by
  have h1 := at0_some (p := p) (i := i) (by rw [h.len]; exact hi)
  have h2 := at0_some (p := p) (i := j) (by rw [h.len]; exact hj)
  rw [e] at h1
  exact nd_ix h.nd h1 h2
theorem Perm.itr_lt {n : Nat} {p : List Nat} (h : Perm n p) : ∀ k i, i < n → itr p k i < n
  | 0, _, hi => hi
  | k + 1, i, hi => h.at_lt (Perm.itr_lt h k i hi)
theorem itr_add (p : List Nat) (a : Nat) : ∀ b i, itr p (a + b) i = itr p b (itr p a i)
  | 0, _ => rfl
  | b + 1, i => by
    show at0 p (itr p (a + b) i) = at0 p (itr p b (itr p a i))
    rw [itr_add p a b i]
theorem Perm.itr_inj {n : Nat} {p : List Nat} (h : Perm n p) : ∀ k i j, i < n → j < n → itr p k i = itr p k j → i = j
  | 0, _, _, _, _, e => e
  | k + 1, i, j, hi, hj, e => Perm.itr_inj h k i j hi hj (h.inj (h.itr_lt k i hi) (h.itr_lt k j hj) e)
theorem pw_len (p : List Nat) : ∀ k, (pw p k).length = p.length
  | 0 => List.length_range
  | k + 1 => by
    show ((pw p k).map (at0 p)).length = _
    rw [List.length_map, pw_len p k]
theorem pw_at (p : List Nat) {i : Nat} (hi : i < p.length) : ∀ k, (pw p k)[i]? = some (itr p k i)
  | 0 => List.getElem?_range hi
  | k + 1 => by
    show ((pw p k).map (at0 p))[i]? = _
    rw [List.getElem?_map, pw_at p hi k]
    rfl
theorem pw_id (p : List Nat) (k : Nat) : pw p k = idN p.length ↔ ∀ i, i < p.length → itr p k i = i := by
  constructor
  · intro e i hi
    have h1 := pw_at p hi k
    rw [e] at h1
    have h2 : (idN p.length)[i]? = some i := List.getElem?_range hi
    rw [h1] at h2
    exact Option.some.inj h2
  · intro hall
    apply List.ext_getElem?
    intro i
    by_cases hi : i < p.length
    · rw [pw_at p hi k, hall i hi]
      exact (List.getElem?_range hi).symm
    · rw [List.getElem?_eq_none (by rw [pw_len]; omega), List.getElem?_eq_none (by unfold idN; rw [List.length_range]; omega)]
theorem pw_one {n : Nat} {p : List Nat} (h : Perm n p) : pw p 1 = p := by
  apply List.ext_getElem?
  intro i
  by_cases hi : i < p.length
  · rw [pw_at p hi 1, at0_some hi]
    rfl
  · rw [List.getElem?_eq_none (by rw [pw_len]; omega), List.getElem?_eq_none (by omega)]
/-- how long it takes place i to come back -/
def IsCyc (p : List Nat) (i L : Nat) : Prop := 1 ≤ L ∧ itr p L i = i ∧ ∀ k, 1 ≤ k → k < L → itr p k i ≠ i
theorem nodup_le : ∀ {ks ns : List Nat}, ks.Nodup → (∀ k ∈ ks, k ∈ ns) → ks.length ≤ ns.length
  | [], _, _, _ => Nat.zero_le _
  | k :: ks, ns, nd, h => by
    have hk : k ∈ ns := h k List.mem_cons_self
    have nd' := List.nodup_cons.mp nd
    have hs : ∀ x ∈ ks, x ∈ ns.erase k := fun x hx => by
      have hne : x ≠ k := fun e => nd'.1 (e ▸ hx)
      exact (List.mem_erase_of_ne hne).mpr (h x (List.mem_cons_of_mem _ hx))
    have ih := nodup_le nd'.2 hs
    rw [List.length_erase_of_mem hk] at ih
    have := List.length_pos_of_mem hk
    rw [List.length_cons]
    omega
theorem least_of {P : Nat → Prop} : ∀ n, (∃ k, 1 ≤ k ∧ k ≤ n ∧ P k) → ∃ L, 1 ≤ L ∧ L ≤ n ∧ P L ∧ ∀ k, 1 ≤ k → k < L → ¬ P k
  | 0, ⟨k, h1, h2, _⟩ => absurd h1 (by omega)
  | n + 1, ⟨k, h1, h2, hp⟩ => by
    by_cases hn : ∃ k, 1 ≤ k ∧ k ≤ n ∧ P k
    · obtain ⟨L, a, b, c, d⟩ := least_of n hn
      exact ⟨L, a, by omega, c, d⟩
    · have e : k = n + 1 := by
        by_cases hk : k ≤ n
        · exact absurd ⟨k, h1, hk, hp⟩ hn
        · omega
      subst e
      exact ⟨n + 1, h1, Nat.le_refl _, hp, fun j j1 j2 pj => hn ⟨j, j1, by omega, pj⟩⟩
theorem Perm.cyc {n i : Nat} {p : List Nat} (h : Perm n p) (hi : i < n) : ∃ L, L ≤ n ∧ IsCyc p i L := by
  have hex : ∃ k, 1 ≤ k ∧ k ≤ n ∧ itr p k i = i := by
    by_cases hh : ∃ k, 1 ≤ k ∧ k ≤ n ∧ itr p k i = i
    · exact hh
    · exfalso
      have nd : ((List.range (n + 1)).map fun k => itr p k i).Nodup := by
        refine List.pairwise_iff_getElem.mpr fun a b ha hb hab e => ?_
        rw [List.length_map, List.length_range] at ha hb
        rw [List.getElem_map, List.getElem_map, List.getElem_range, List.getElem_range] at e
        have e2 : itr p b i = itr p a (itr p (b - a) i) := by rw [← itr_add]; congr 1; omega
        rw [e2] at e
        exact hh ⟨b - a, by omega, by omega, (h.itr_inj a _ _ hi (h.itr_lt _ _ hi) e).symm⟩
      have := nodup_le (ns := List.range n) nd (fun k hk => by
        obtain ⟨j, _, rfl⟩ := List.mem_map.mp hk
        exact List.mem_range.mpr (h.itr_lt _ _ hi))
      rw [List.length_map, List.length_range, List.length_range] at this
      omega
  obtain ⟨L, a, b, c, d⟩ := least_of n hex
  exact ⟨L, b, a, c, d⟩
theorem cyc_mul {p : List Nat} {i L : Nat} (h : itr p L i = i) : ∀ m, itr p (L * m) i = i
  | 0 => rfl
  | m + 1 => by rw [Nat.mul_succ, Nat.add_comm, itr_add, h, cyc_mul h m]
theorem IsCyc.dvd {p : List Nat} {i L k : Nat} (h : IsCyc p i L) : itr p k i = i ↔ L ∣ k := by
  constructor
  · intro e
    have hm : itr p (k % L) i = i := by
      have e2 : itr p k i = itr p (k % L) (itr p (L * (k / L)) i) := by rw [← itr_add, Nat.div_add_mod]
      rw [cyc_mul h.2.1] at e2
      rw [← e2, e]
    by_cases hz : k % L = 0
    · exact Nat.dvd_of_mod_eq_zero hz
    · exact absurd hm (h.2.2 _ (by omega) (Nat.mod_lt _ h.1))
  · rintro ⟨m, rfl⟩
    exact cyc_mul h.2.1 m
/-! lcm of a list -/
def lcmL (l : List Nat) : Nat := l.foldl Nat.lcm 1
theorem foldl_lcm_dvd : ∀ (l : List Nat) (a k : Nat), l.foldl Nat.lcm a ∣ k ↔ a ∣ k ∧ ∀ x ∈ l, x ∣ k
  | [], a, k => by simp
  | x :: l, a, k => by
    rw [List.foldl_cons, foldl_lcm_dvd l (Nat.lcm a x) k]
    constructor
    · rintro ⟨h1, h2⟩
      refine ⟨Nat.dvd_trans (Nat.dvd_lcm_left a x) h1, fun y hy => ?_⟩
      rcases List.mem_cons.mp hy with rfl | hy
      · exact Nat.dvd_trans (Nat.dvd_lcm_right a y) h1
      · exact h2 y hy
    · rintro ⟨h1, h2⟩
      exact ⟨Nat.lcm_dvd h1 (h2 x List.mem_cons_self), fun y hy => h2 y (List.mem_cons_of_mem _ hy)⟩
theorem lcmL_dvd (l : List Nat) (k : Nat) : lcmL l ∣ k ↔ ∀ x ∈ l, x ∣ k := by
  unfold lcmL
  rw [foldl_lcm_dvd]
  exact ⟨fun h => h.2, fun h => ⟨Nat.one_dvd k, h⟩⟩
theorem lcmL_pos : ∀ {l : List Nat}, (∀ x ∈ l, 1 ≤ x) → 1 ≤ lcmL l := by
  have gen : ∀ (l : List Nat) (a : Nat), 1 ≤ a → (∀ x ∈ l, 1 ≤ x) → 1 ≤ l.foldl Nat.lcm a := by
    intro l
    induction l with
    | nil => intro a ha _; exact ha
    | cons x l ih =>
      intro a ha h
      rw [List.foldl_cons]
      exact ih _ (Nat.lcm_pos ha (h x List.mem_cons_self)) fun y hy => h y (List.mem_cons_of_mem _ hy)
  intro l h
  exact gen l 1 (Nat.le_refl _) h
/-! at most 20 for nine places: distinct lengths take different places -/
theorem count_sum : ∀ (l S : List Nat), S.Nodup → (S.map fun x => l.count x).sum ≤ l.length
  | [], S, nd => by
    have : (S.map fun x => ([] : List Nat).count x).sum = 0 := by
      clear nd
      induction S with
      | nil => rfl
      | cons s S ih =>
        rw [List.map_cons, List.sum_cons, ih]
        rfl
    rw [this]; exact Nat.zero_le _
  | y :: l, S, nd => by
    have ih := count_sum l S nd
    have h1 : ∀ S : List Nat, S.Nodup → (S.map fun x => (y :: l).count x).sum ≤ (S.map fun x => l.count x).sum + (if y ∈ S then 1 else 0) := by
      intro S
      induction S with
      | nil => intro _; simp
      | cons s S ihs =>
        intro nd
        have nd' := List.nodup_cons.mp nd
        have := ihs nd'.2
        rw [List.map_cons, List.sum_cons, List.map_cons, List.sum_cons, List.count_cons]
        by_cases e : y = s
        · subst e
          rw [if_neg nd'.1] at this
          rw [if_pos List.mem_cons_self]
          simp only [beq_self_eq_true, if_true]
          omega
        · have e2 : (y == s) = false := by simpa using e
          rw [e2]
          have e3 : (y ∈ s :: S) ↔ y ∈ S := by simp [e]
          simp only [e3, Bool.false_eq_true, if_false]
          omega
    have h2 := h1 S nd
    rw [List.length_cons]
    by_cases hy : y ∈ S
    · rw [if_pos hy] at h2; omega
    · rw [if_neg hy] at h2; omega
theorem small_lcm (q : Nat → Bool) (h0 : q 0 = false) (h : ((List.range 10).filter q).sum ≤ 9) : lcmL ((List.range 10).filter q) ≤ 99 := by
  have e : List.range 10 = [0, 1, 2, 3, 4, 5, 6, 7, 8, 9] := by decide
  rw [e] at h ⊢
  simp only [List.filter_cons, List.filter_nil, h0] at h ⊢
  generalize q 1 = b1 at h ⊢
  generalize q 2 = b2 at h ⊢
  generalize q 3 = b3 at h ⊢
  generalize q 4 = b4 at h ⊢
  generalize q 5 = b5 at h ⊢
  generalize q 6 = b6 at h ⊢
  generalize q 7 = b7 at h ⊢
  generalize q 8 = b8 at h ⊢
  generalize q 9 = b9 at h ⊢
  revert b1 b2 b3 b4 b5 b6 b7 b8 b9
  decide +kernel
theorem Perm.order_small {n : Nat} {p Ls : List Nat} (h : Perm n p) (hn : n ≤ 9) (hl : Ls.length = n) (hc : ∀ i, i < n → IsCyc p i (at0 Ls i)) : lcmL Ls ≤ 99 := by
  have mem : ∀ x ∈ Ls, ∃ i, i < n ∧ at0 Ls i = x := fun x hx => by
    obtain ⟨i, hi⟩ := List.mem_iff_getElem?.mp hx
    have hil := (List.getElem?_eq_some_iff.mp hi).1
    rw [at0_some hil] at hi
    exact ⟨i, by omega, Option.some.inj hi⟩
  -- the places on the way of i have its length
  have cnt : ∀ x ∈ Ls, x ≤ Ls.count x := fun x hx => by
    obtain ⟨i, hi, ex⟩ := mem x hx
    have hci := hc i hi
    rw [ex] at hci
    have same : ∀ k, at0 Ls (itr p k i) = x := fun k => by
      have hj := h.itr_lt k i hi
      have hcj := hc _ hj
      have d1 : at0 Ls (itr p k i) ∣ x := by
        rw [← hcj.dvd, ← itr_add, Nat.add_comm, itr_add, hci.2.1]
      have d2 : x ∣ at0 Ls (itr p k i) := by
        rw [← hci.dvd]
        refine h.itr_inj k _ _ (h.itr_lt _ _ hi) hi ?_
        rw [← itr_add, Nat.add_comm, itr_add]
        exact hcj.2.1
      exact Nat.dvd_antisymm d1 d2
    have nd : ((List.range x).map fun k => itr p k i).Nodup := by
      refine List.pairwise_iff_getElem.mpr fun a b ha hb hab e => ?_
      rw [List.length_map, List.length_range] at ha hb
      rw [List.getElem_map, List.getElem_map, List.getElem_range, List.getElem_range] at e
      have e2 : itr p b i = itr p a (itr p (b - a) i) := by rw [← itr_add]; congr 1; omega
      rw [e2] at e
      exact hci.2.2 (b - a) (by omega) (by omega) (h.itr_inj a _ _ hi (h.itr_lt _ _ hi) e).symm
    have hle := nodup_le (ns := (List.range n).filter fun j => at0 Ls j == x) nd (fun j hj => by
      obtain ⟨k, _, rfl⟩ := List.mem_map.mp hj
      refine List.mem_filter.mpr ⟨List.mem_range.mpr (h.itr_lt k i hi), ?_⟩
      rw [same k]; exact beq_self_eq_true _)
    rw [List.length_map, List.length_range] at hle
    have eL : Ls = (List.range n).map (at0 Ls) := by
      apply List.ext_getElem?
      intro j
      by_cases hj : j < n
      · rw [at0_some (by omega), List.getElem?_map, List.getElem?_range hj]; rfl
      · rw [List.getElem?_eq_none (by omega), List.getElem?_eq_none (by rw [List.length_map, List.length_range]; omega)]
    have e3 : Ls.count x = ((List.range n).filter fun j => at0 Ls j == x).length := by
      rw [List.count_eq_countP]
      conv => lhs; rw [eL]
      rw [List.countP_map, List.countP_eq_length_filter]
      rfl
    omega
  have pos : ∀ x ∈ Ls, 1 ≤ x := fun x hx => by
    obtain ⟨i, hi, ex⟩ := mem x hx
    rw [← ex]; exact (hc i hi).1
  have bnd : ∀ x ∈ Ls, x ≤ 9 := fun x hx => by
    have := cnt x hx
    have := List.count_le_length (a := x) (l := Ls)
    omega
  have ndS : ((List.range 10).filter fun x => decide (x ∈ Ls)).Nodup := (List.nodup_range.sublist List.filter_sublist)
  have s1 := count_sum Ls _ ndS
  have s2 : ((List.range 10).filter fun x => decide (x ∈ Ls)).sum ≤ (((List.range 10).filter fun x => decide (x ∈ Ls)).map fun x => Ls.count x).sum := by
    have gen : ∀ S : List Nat, (∀ x ∈ S, x ≤ Ls.count x) → S.sum ≤ (S.map fun x => Ls.count x).sum := by
      intro S
      induction S with
      | nil => intro _; exact Nat.le_refl _
      | cons s S ih =>
        intro hS
        rw [List.map_cons, List.sum_cons, List.sum_cons]
        have := hS s List.mem_cons_self
        have := ih fun x hx => hS x (List.mem_cons_of_mem _ hx)
        omega
    exact gen _ fun x hx => cnt x (of_decide_eq_true (List.mem_filter.mp hx).2)
  have h3 := small_lcm (fun x => decide (x ∈ Ls)) (decide_eq_false fun h0 => absurd (pos 0 h0) (by omega)) (by omega)
  refine Nat.le_trans (Nat.le_of_dvd ?_ ?_) h3
  · exact lcmL_pos fun x hx => pos x (of_decide_eq_true (List.mem_filter.mp hx).2)
  · rw [lcmL_dvd]
    intro x hx
    have hm : x ∈ (List.range 10).filter fun x => decide (x ∈ Ls) := List.mem_filter.mpr ⟨List.mem_range.mpr (by have := bnd x hx; omega), decide_eq_true hx⟩
    exact (lcmL_dvd _ _).mp (Nat.dvd_refl _) x hm
/-- the order: the least power that leads each place to itself -/
theorem Perm.order {n : Nat} {p Ls : List Nat} (h : Perm n p) (hl : Ls.length = n) (hc : ∀ i, i < n → IsCyc p i (at0 Ls i)) : 1 ≤ lcmL Ls ∧ pw p (lcmL Ls) = idN n ∧ ∀ k, 1 ≤ k → k < lcmL Ls → pw p k ≠ idN n := by
  have key : ∀ k, pw p k = idN n ↔ lcmL Ls ∣ k := fun k => by
    have e : idN n = idN p.length := by rw [h.len]
    rw [e, pw_id, lcmL_dvd, h.len]
    constructor
    · intro hall x hx
      obtain ⟨i, hi⟩ := List.mem_iff_getElem?.mp hx
      have hil := (List.getElem?_eq_some_iff.mp hi).1
      rw [at0_some hil] at hi
      rw [← Option.some.inj hi]
      exact (hc i (by omega)).dvd.mp (hall i (by omega))
    · intro hall i hi
      exact (hc i hi).dvd.mpr (hall _ (List.mem_of_getElem? (at0_some (by omega))))
  have pos : ∀ x ∈ Ls, 1 ≤ x := fun x hx => by
    obtain ⟨i, hi⟩ := List.mem_iff_getElem?.mp hx
    have hil := (List.getElem?_eq_some_iff.mp hi).1
    rw [at0_some hil] at hi
    rw [← Option.some.inj hi]
    exact (hc i (by omega)).1
  refine ⟨lcmL_pos pos, (key _).mpr (Nat.dvd_refl _), fun k h1 h2 e => ?_⟩
  have := Nat.le_of_dvd (by omega) ((key k).mp e)
  omega
end G
set_option Elab.async false
set_option linter.all false
set_option maxRecDepth 100000
set_option maxHeartbeats 4000000
namespace G
open PySem PySem.Spec PyProof.Rows L2
section
variable {X : Cx} {K : PySem.W.Frag} {H : Hp} {Q : VK}
def rIdxT (K : PySem.W.Frag) : V → List V → Hp → VK → Prop := fun x xs H Q => ∃ (p : Addr) (g : List Int) (k : Int), x = .ref p ∧ xs = [.int k] ∧ SqT K H p (g.map V.int) ∧ k ∈ g ∧ Q (.int (g.idxOf k : Nat)) H
theorem mt_indexT (hK : X.K = K) : MtR X "tuple.index" (rIdxT K) := by
  subst hK
  intro pins s σ H x xs v us Q I rx rs h
  obtain ⟨p, g, k, rfl, rfl, hq, hk, q⟩ := h
  cases rx
  obtain ⟨u, rfl, t, rfl⟩ := vals1 rs
  obtain ⟨its, r, ⟨⟨cls, dd, dt, sl⟩, ho, hc, n, hd⟩, hz⟩ := I.tuple hq
  obtain rfl : cls = .type "tuple" := hc
  obtain rfl : dt = .seq its.toArray n := hd
  have hl : its.toArray.size = g.length := by rw [List.size_toArray, ← r.length, List.length_map]
  have hj := List.idxOf_lt_length_of_mem hk
  have there : ∀ (m : Nat) (hm : m < its.toArray.size), ∃ t', its.toArray[m] = Value.int (g.getD m 0) t' := fun m hm => by
    have hm' : m < g.length := by omega
    obtain ⟨w, hw, t', hw'⟩ := r.get (i := m) (x := .int (g.getD m 0)) (by rw [List.getElem?_map, List.getD_eq_getElem?_getD, List.getElem?_eq_getElem hm']; rfl)
    refine ⟨t', ?_⟩
    have e := (List.getElem?_eq_some_iff.mp hw).2
    rw [← hw', ← e]
    simp
  have eqs : ∀ w, w ∈ its.toArray → SeqAt.EqAt X.A.in1 s w (.int k t) (eqU (.int k) w) := fun w hw =>
    mem_eqAt (x := .int k) ⟨t, rfl⟩ rfl r (flat_ints g) w (by simpa using hw)
  refine call_meets PySem.F.slot_tuple_index ⟨_, ho, rfl⟩ PySem.F.entry_tuple_index (PySem.F.args_tuple_index_2 _ _)
    (TI.tuple_indexAt p its.toArray n dd sl (.int k t) (eqU (.int k)) (g.idxOf k) (by omega) ?_ ?_) ⟨ho, eqs, ⟨.int _, H, I.tok _, ⟨_, rfl⟩, q⟩⟩
  · obtain ⟨t', h2⟩ := there (g.idxOf k) (by omega)
    rw [h2]
    show (g.getD (g.idxOf k) 0 == k) = true
    rw [List.getD_eq_getElem?_getD, List.getElem?_eq_getElem hj, List.getElem_idxOf hj]
    exact beq_self_eq_true k
  · intro m hm hmj
    obtain ⟨t', h2⟩ := there m hm
    rw [h2]
    show (g.getD m 0 == k) = false
    have hm' : m < g.length := by omega
    have := List.not_of_lt_findIdx (p := (· == k)) (xs := g) (i := m) hmj
    rw [List.getD_eq_getElem?_getD, List.getElem?_eq_getElem hm']
    simpa using this
theorem r_idxT {p : Addr} {g : List Int} {k : Int} (h : SqT K H p (g.map V.int)) (hk : k ∈ g) (q : Q (.int (g.idxOf k : Nat)) H) : rIdxT K (.ref p) [.int k] H Q := ⟨p, g, k, rfl, rfl, h, hk, q⟩
end
theorem nat_ints (r : List Nat) : r.map nD = (r.map fun n : Nat => (n : Int)).map PyData.int := by rw [List.map_map]; rfl
theorem shaped_row (r : List Nat) : SeqAt.shaped (rowD r) = true := by
  refine Bool.and_eq_true_iff.mpr ⟨?_, decide_eq_true ?_⟩
  · show PyData.canLayAll0 (r.map nD) = true
    rw [nat_ints]
    exact lay_ints _
  · show PyData.depthAll (r.map nD) + 1 ≤ 64
    rw [nat_ints, depth_ints]
    decide
theorem cast_inj {a b : List Nat} : (a.map fun n : Nat => (n : Int)) = (b.map fun n : Nat => (n : Int)) ↔ a = b := by
  constructor
  · intro h
    have h2 := congrArg (List.map Int.toNat) h
    rw [List.map_map, List.map_map] at h2
    have e : (Int.toNat ∘ fun n : Nat => (n : Int)) = id := by funext n; exact Int.toNat_natCast n
    rw [e, List.map_id, List.map_id] at h2
    exact h2
  · rintro rfl
    rfl
theorem eqv_rows (a b : List Nat) : PyData.eqv (rowD a) (rowD b) = decide (a = b) := by
  unfold rowD
  rw [PyData.eqv, nat_ints, nat_ints, eqv_ints_all]
  by_cases h : a = b
  · subst h; simp
  · rw [decide_eq_false h, decide_eq_false fun e => h (cast_inj.mp e)]
theorem fits_row {r : List Nat} (n : Nat) (h : r.length ≤ 1000) : fits (n + 2) (rowD r) := by
  have zl : (sizeLine : Nat) = 16777216 := by decide
  refine ⟨by rw [List.length_map]; omega, fun d hd => ?_⟩
  obtain ⟨k, _, rfl⟩ := List.mem_map.mp hd
  exact True.intro
section
variable {σ : L2.St} {H : Hp} {Q : VK} {te ta : TE} {K : PySem.W.Frag}
theorem r_rng2 {ta : TA} {R : It → Hp → Prop} (h : ta σ H fun vs H1 => ∃ i j : Int, vs = [.int i, .int j] ∧ (-(2 ^ 62) ≤ i ∧ i < 2 ^ 62 ∧ -(2 ^ 62) ≤ j ∧ j < 2 ^ 62) ∧ R (Itr i (j - i).toNat) H1) : iRng2 ta σ H R := h
theorem r_rng2' {i j : Int} {C : Int → Int → Prop} (h : -(2 ^ 62) ≤ i ∧ i < 2 ^ 62 ∧ -(2 ^ 62) ≤ j ∧ j < 2 ^ 62) (q : C i j) : ∃ i' j' : Int, [V.int i, V.int j] = [.int i', .int j'] ∧ (-(2 ^ 62) ≤ i' ∧ i' < 2 ^ 62 ∧ -(2 ^ 62) ≤ j' ∧ j' < 2 ^ 62) ∧ C i' j' := ⟨i, j, rfl, h, q⟩
theorem rg_nat (n : Nat) : rgV 0 (n : Int) = (List.range n).map iV := by
  unfold rgV
  rw [show ((n : Int) - 0).toNat = n by omega]
  refine List.map_congr_left fun i _ => ?_
  show V.int (0 + (i : Int)) = V.int (i : Int)
  rw [Int.zero_add]
theorem r_tupRgN {n : Nat} (h1 : n ≤ 16777216) (q : ∀ p, H p = none → Q (.ref p) (upd H p (.tup ((List.range n).map iV)))) (h : ∀ R : VK, R (iV n) H → te σ H R) : tTupRg (tRg1 te) σ H Q := by
  refine h _ ⟨(n : Int), rfl, RgOk.of_le (Int.le_refl _) (by omega) (by decide) (by omega), fun p hp => ?_⟩
  rw [rg_nat]
  exact q p hp
theorem r_lcm {a b : Nat} (ha : a < 2 ^ 64) (hb : b < 2 ^ 64) (q : Q (iV (Nat.lcm a b)) H) : rLcm [.int (a : Int), .int (b : Int)] H Q := ⟨a, b, rfl, ha, hb, q⟩
end
theorem row_of {K : PySem.W.Frag} {H : Hp} {p : Addr} {r : List Nat} (h : SqT K H p (r.map iV)) : Dt K H (.ref p) (rowD r) := .tup h (ofNats r)
theorem at_row {r : List Nat} {i : Nat} (h : i < r.length) : atI (r.map iV) (i : Int) = some (iV (at0 r i)) := at_nat rfl h
/-! ### primes -/
def isPr (e : Nat) : Prop := 2 ≤ e ∧ ∀ f, 2 ≤ f → f < e → ¬ f ∣ e
theorem least_pr : ∀ n, 2 ≤ n → ∃ e, isPr e ∧ e ∣ n := by
  intro n
  induction n using Nat.strongRecOn with
  | _ n ih =>
    intro h2
    by_cases h : ∃ f, 2 ≤ f ∧ f < n ∧ f ∣ n
    · obtain ⟨f, a, b, c⟩ := h
      obtain ⟨e, he, hd⟩ := ih f b a
      exact ⟨e, he, Nat.dvd_trans hd c⟩
    · exact ⟨n, ⟨h2, fun f a b c => h ⟨f, a, b, c⟩⟩, Nat.dvd_refl n⟩
open Classical in
noncomputable def prF (c d : Nat) : List Nat := (List.range d).filter fun e => decide (isPr e ∧ e ∣ c)
theorem prF_yes {c d : Nat} (h : isPr d ∧ d ∣ c) : prF c (d + 1) = prF c d ++ [d] := by
  classical
  unfold prF
  rw [List.range_succ, List.filter_append, List.filter_cons_of_pos (by simpa using h)]
  rfl
theorem prF_no {c d : Nat} (h : ¬ (isPr d ∧ d ∣ c)) : prF c (d + 1) = prF c d := by
  classical
  unfold prF
  rw [List.range_succ, List.filter_append, List.filter_cons_of_neg (by simpa using h), List.filter_nil, List.append_nil]
theorem prF_mem {c d e : Nat} : e ∈ prF c d ↔ e < d ∧ isPr e ∧ e ∣ c := by
  classical
  unfold prF
  rw [List.mem_filter, List.mem_range]
  simp
theorem prF_two (c : Nat) : prF c 2 = [] := by
  refine List.eq_nil_iff_forall_not_mem.mpr fun e he => ?_
  have := prF_mem.mp he
  have := this.2.1.1
  omega
theorem prF_grow {c d : Nat} (h : ∀ e, d ≤ e → isPr e → ¬ e ∣ c) : ∀ k, prF c (d + k) = prF c d
  | 0 => rfl
  | k + 1 => by
    show prF c (d + k + 1) = _
    rw [prF_no (fun z => h (d + k) (Nat.le_add_right _ _) z.1 z.2), prF_grow h k]
theorem pr_cop {e d : Nat} (he : isPr e) (hd : 1 ≤ d) (h : d < e) : Nat.Coprime e d := by
  have g1 := Nat.gcd_dvd_left e d
  have g2 := Nat.gcd_dvd_right e d
  have hle := Nat.le_of_dvd hd g2
  by_cases hg : 2 ≤ Nat.gcd e d
  · exact absurd g1 (he.2 _ hg (by omega))
  · have : 0 < Nat.gcd e d := Nat.gcd_pos_of_pos_right _ hd
    show Nat.gcd e d = 1
    omega
end G
namespace L00
open PySem PySem.Spec PyProof.Rows L2 G
local macro_rules | `(tactic| walk_at "rd1") => `(tactic| first
  | (with_reducible refine r_seq ?_) | (with_reducible refine r_set ?_)
  | ((with_reducible refine' r_var ?rdh ?_); (case rdh => exact rfl))
  | (with_reducible refine r_c ?_) | (with_reducible refine r_op ?_) | (with_reducible refine r_un ?_) | (with_reducible refine r_cb ?_)
  | (with_reducible refine r_cons ?_) | (with_reducible refine r_nil ?_) | (with_reducible refine r_call ?_)
  | (with_reducible refine r_test ?_) | (with_reducible refine r_tb ?_) | (with_reducible refine r_bl ?_)
  | (with_reducible refine r_if ?_) | (with_reducible refine r_yes ?_) | (with_reducible refine r_ifx ?_) | (with_reducible refine r_and ?_) | (with_reducible refine r_or ?_) | (with_reducible refine r_not ?_)
  | (with_reducible refine r_andV ?_) | (with_reducible refine r_orV ?_) | (with_reducible refine r_notV ?_)
  | (with_reducible refine r_ret ?_) | (with_reducible refine r_retN ?_) | (with_reducible refine r_next ?_) | (with_reducible refine r_drop ?_) | (with_reducible refine r_asg ?_)
  | (with_reducible refine r_tup ?_) | (with_reducible refine r_lst ?_)
  | (with_reducible refine r_I0 ?_) | (with_reducible refine r_U ?_) | (with_reducible refine r_eqI ?_) | (with_reducible refine r_neI ?_) | (with_reducible refine r_eqS ?_) | (with_reducible refine r_neS ?_) | (with_reducible refine r_eqB ?_) | (with_reducible refine r_neB ?_)
  | (with_reducible refine r_int1 ?_) | (with_reducible refine r_isN ?_) | (with_reducible refine r_notN ?_)
  | (with_reducible refine iteT ?_) | (with_reducible refine iteF ?_)
  | (with_reducible refine r_sl ?_) | (with_reducible refine r_noPart ?_) | (with_reducible refine r_part ?_) | (with_reducible refine r_pint ?_)
  | ((with_reducible refine' r_isi (.ty _) ?rdt ?rdk ?_); (case rdt => first | exact .base (.int _) | exact .base (.str _) | exact .base (.bl _) | exact .base .non | exact tyx_sqL (by assumption) | exact tyx_sqT (by assumption)); (case rdk => first | exact kt_NoneType_list | exact kt_NoneType_tuple | exact kt_NoneType_bool | exact kt_NoneType_int | exact kt_NoneType_str | exact kt_bool_list | exact kt_bool_tuple | exact kt_bool_bool | exact kt_bool_int | exact kt_bool_str | exact kt_int_list | exact kt_int_tuple | exact kt_int_bool | exact kt_int_int | exact kt_int_str | exact kt_str_list | exact kt_str_tuple | exact kt_str_bool | exact kt_str_int | exact kt_str_str | exact kt_list_list | exact kt_list_tuple | exact kt_list_bool | exact kt_list_int | exact kt_list_str | exact kt_tuple_list | exact kt_tuple_tuple | exact kt_tuple_bool | exact kt_tuple_int | exact kt_tuple_str))
  | (with_reducible refine r_gn ?_) | (with_reducible refine r_gsub ?_) | (with_reducible refine r_chain ?_) | (with_reducible refine r_inSg ?_) | (with_reducible refine r_notInSg ?_) | (with_reducible refine r_bmS ?_) | ((with_reducible show tLc _ _ _ _ _ _ _ _); (first | show iStr _ _ _ _ | show iList _ _ _ _ _ | show iTup _ _ _ _ _ | show iRng1 _ _ _ _ | show iRng2 _ _ _ _)) | (with_reducible refine r_iStr ?_) | (with_reducible refine r_iList ?_) | (with_reducible refine r_iTup ?_) | (with_reducible refine r_str1 ?_) | (with_reducible refine r_ref1 ?_)
  | (with_reducible refine iteNT ?_) | (with_reducible refine iteNF ?_)
  | (with_reducible refine r_fdiv ⟨by decide, by decide⟩ ?_) | (with_reducible refine r_mod (by first | decide | assumption) ?_) | (with_reducible refine r_mul (.inr ⟨by decide, by decide⟩) ?_) | (with_reducible refine r_mul (.inl ⟨by decide, by decide⟩) ?_) | (with_reducible refine r_pow ⟨by decide, by decide, by decide⟩ ?_)
  | ((with_reducible show tFor _ _ _ _ _ _); (first | show iStr _ _ _ _ | show iList _ _ _ _ _ | show iTup _ _ _ _ _ | show iRng1 _ _ _ _ | show iRng2 _ _ _ _)) | (with_reducible refine r_rng1 ?_) | (with_reducible refine r_bmL ?_) | (with_reducible refine r_break ?_) | (with_reducible refine r_cont ?_))
local macro_rules | `(tactic| walk_at "rd") => `(tactic| repeat walk_at "rd1")
section
def topS (i : Nat) : Stmt := PySem.Challenge.pw_turnsandthrows_k00_make_machine.main.body.getD i (.Pass ⟨0, 0, 0, 0⟩)
abbrev s_make_machine : Stmt := topS 7
abbrev N_make_machine : List Str := ["steps", "start", "good", "row"]
theorem sc_make_machine : FnScope N_make_machine ["steps", "start", "good"] (defScope s_make_machine) := ⟨rfl, rfl, rfl, by decide +kernel, rfl, by decide +kernel, by decide +kernel⟩
abbrev s_check_shape : Stmt := topS 8
abbrev N_check_shape : List Str := ["steps", "width", "state", "row"]
theorem sc_check_shape : FnScope N_check_shape ["steps"] (defScope s_check_shape) := ⟨rfl, rfl, rfl, by decide +kernel, rfl, by decide +kernel, by decide +kernel⟩
abbrev s_check_states : Stmt := topS 9
abbrev N_check_states : List Str := ["states", "count", "state"]
theorem sc_check_states : FnScope N_check_states ["states", "count"] (defScope s_check_states) := ⟨rfl, rfl, rfl, by decide +kernel, rfl, by decide +kernel, by decide +kernel⟩
abbrev s_l_cell : Stmt := topS 11
abbrev N_l_cell : List Str := ["script", "k"]
theorem sc_l_cell : FnScope N_l_cell ["script", "k"] (defScope s_l_cell) := ⟨rfl, rfl, rfl, by decide +kernel, rfl, by decide +kernel, by decide +kernel⟩
abbrev s_l_numbers : Stmt := topS 12
abbrev N_l_numbers : List Str := ["cell", "count", "numbers", "k", "mixed"]
theorem sc_l_numbers : FnScope N_l_numbers ["cell", "count"] (defScope s_l_numbers) := ⟨rfl, rfl, rfl, by decide +kernel, rfl, by decide +kernel, by decide +kernel⟩
abbrev s_l_same : Stmt := topS 13
abbrev N_l_same : List Str := ["actual", "due", "k"]
theorem sc_l_same : FnScope N_l_same ["actual", "due"] (defScope s_l_same) := ⟨rfl, rfl, rfl, by decide +kernel, rfl, by decide +kernel, by decide +kernel⟩
abbrev s_l_drawn : Stmt := topS 14
abbrev N_l_drawn : List Str := ["script", "numbers", "count", "letters", "steps", "state", "draws", "good", "k", "number"]
theorem sc_l_drawn : FnScope N_l_drawn ["script"] (defScope s_l_drawn) := ⟨rfl, rfl, rfl, by decide +kernel, rfl, by decide +kernel, by decide +kernel⟩
abbrev s_l_spoils : Stmt := topS 15
abbrev N_l_spoils : List Str := ["steps", "start", "good", "numbers", "count", "bad", "place", "entry"]
theorem sc_l_spoils : FnScope N_l_spoils ["steps", "start", "good", "numbers"] (defScope s_l_spoils) := ⟨rfl, rfl, rfl, by decide +kernel, rfl, by decide +kernel, by decide +kernel⟩
abbrev s_l_is_good : Stmt := topS 16
abbrev N_l_is_good : List Str := ["steps", "start", "good", "count", "entry", "target", "state"]
theorem sc_l_is_good : FnScope N_l_is_good ["steps", "start", "good"] (defScope s_l_is_good) := ⟨rfl, rfl, rfl, by decide +kernel, rfl, by decide +kernel, by decide +kernel⟩
abbrev s_l_refused : Stmt := topS 17
abbrev N_l_refused : List Str := ["steps", "start", "good", "e"]
theorem sc_l_refused : FnScope N_l_refused ["steps", "start", "good"] (defScope s_l_refused) := ⟨rfl, rfl, rfl, by decide +kernel, rfl, by decide +kernel, by decide +kernel⟩
abbrev s_law : Stmt := topS 18
abbrev N_law : List Str := ["script", "steps", "start", "good", "numbers", "k", "handed", "handed_good", "due", "entry"]
theorem sc_law : FnScope N_law ["script"] (defScope s_law) := ⟨rfl, rfl, rfl, by decide +kernel, rfl, by decide +kernel, by decide +kernel⟩
structure Ad where
  f_make_machine : Addr
  d_make_machine : FuncData
  f_check_shape : Addr
  d_check_shape : FuncData
  f_check_states : Addr
  d_check_states : FuncData
  f_l_cell : Addr
  d_l_cell : FuncData
  f_l_numbers : Addr
  d_l_numbers : FuncData
  f_l_same : Addr
  d_l_same : FuncData
  f_l_drawn : Addr
  d_l_drawn : FuncData
  f_l_spoils : Addr
  d_l_spoils : FuncData
  f_l_is_good : Addr
  d_l_is_good : FuncData
  f_l_refused : Addr
  d_l_refused : FuncData
  f_law : Addr
  d_law : FuncData
  k_MachineError : Addr
  k_InvalidMachine : Addr
  k_InvalidEdit : Addr
structure Txt (K : PySem.W.Frag) (mg : Str → Option Value) (a : Ad) : Prop where
  F_make_machine : Fun K "make_machine" "make_machine" s_make_machine a.f_make_machine a.d_make_machine
  b_make_machine : Binds K a.d_make_machine ["steps", "start", "good"] []
  g_make_machine : mg "make_machine" = some (.ref a.f_make_machine)
  F_check_shape : Fun K "check_shape" "check_shape" s_check_shape a.f_check_shape a.d_check_shape
  b_check_shape : Binds K a.d_check_shape ["steps"] []
  g_check_shape : mg "check_shape" = some (.ref a.f_check_shape)
  F_check_states : Fun K "check_states" "check_states" s_check_states a.f_check_states a.d_check_states
  b_check_states : Binds K a.d_check_states ["states", "count"] []
  g_check_states : mg "check_states" = some (.ref a.f_check_states)
  F_l_cell : Fun K "_law_cell" "_law_cell" s_l_cell a.f_l_cell a.d_l_cell
  b_l_cell : Binds K a.d_l_cell ["script", "k"] []
  g_l_cell : mg "_law_cell" = some (.ref a.f_l_cell)
  F_l_numbers : Fun K "_law_numbers" "_law_numbers" s_l_numbers a.f_l_numbers a.d_l_numbers
  b_l_numbers : Binds K a.d_l_numbers ["cell", "count"] []
  g_l_numbers : mg "_law_numbers" = some (.ref a.f_l_numbers)
  F_l_same : Fun K "_law_same" "_law_same" s_l_same a.f_l_same a.d_l_same
  b_l_same : Binds K a.d_l_same ["actual", "due"] []
  g_l_same : mg "_law_same" = some (.ref a.f_l_same)
  F_l_drawn : Fun K "_law_drawn" "_law_drawn" s_l_drawn a.f_l_drawn a.d_l_drawn
  b_l_drawn : Binds K a.d_l_drawn ["script"] []
  g_l_drawn : mg "_law_drawn" = some (.ref a.f_l_drawn)
  F_l_spoils : Fun K "_law_spoils" "_law_spoils" s_l_spoils a.f_l_spoils a.d_l_spoils
  b_l_spoils : Binds K a.d_l_spoils ["steps", "start", "good", "numbers"] []
  g_l_spoils : mg "_law_spoils" = some (.ref a.f_l_spoils)
  F_l_is_good : Fun K "_law_is_good" "_law_is_good" s_l_is_good a.f_l_is_good a.d_l_is_good
  b_l_is_good : Binds K a.d_l_is_good ["steps", "start", "good"] []
  g_l_is_good : mg "_law_is_good" = some (.ref a.f_l_is_good)
  F_l_refused : Fun K "_law_refused" "_law_refused" s_l_refused a.f_l_refused a.d_l_refused
  b_l_refused : Binds K a.d_l_refused ["steps", "start", "good"] []
  g_l_refused : mg "_law_refused" = some (.ref a.f_l_refused)
  F_law : Fun K "law" "law" s_law a.f_law a.d_law
  b_law : Binds K a.d_law ["script"] []
  g_law : mg "law" = some (.ref a.f_law)
  z_ValueError : mg "ValueError" = none
  z_bool : mg "bool" = none
  z_enumerate : mg "enumerate" = none
  z_int : mg "int" = none
  z_isinstance : mg "isinstance" = none
  z_len : mg "len" = none
  z_list : mg "list" = none
  z_max : mg "max" = none
  z_range : mg "range" = none
  z_set : mg "set" = none
  z_sorted : mg "sorted" = none
  z_str : mg "str" = none
  z_tuple : mg "tuple" = none
  c_LETTERS : ∃ t, mg "LETTERS" = some (Value.str "abcd" t)
  c_MOST_STATES : ∃ t, mg "MOST_STATES" = some (Value.int 40 t)
  gk_MachineError : mg "MachineError" = some (.ref a.k_MachineError)
  gk_InvalidMachine : mg "InvalidMachine" = some (.ref a.k_InvalidMachine)
  gk_InvalidEdit : mg "InvalidEdit" = some (.ref a.k_InvalidEdit)
  x_InvalidMachine : OwnE K mg "InvalidMachine" a.k_InvalidMachine
  em_InvalidMachine_InvalidMachine : PySem.W.exmOne K (.ref a.k_InvalidMachine) (.ref a.k_InvalidMachine) = some true
  ki_InvalidMachine_MachineError : PySem.W.kitOne K (.ref a.k_InvalidMachine) (.ref a.k_MachineError) = some true
  ki_InvalidMachine_ValueError : PySem.W.kitOne K (.ref a.k_InvalidMachine) (.type "ValueError") = some true
  ki_InvalidMachine_InvalidEdit : PySem.W.kitOne K (.ref a.k_InvalidMachine) (.ref a.k_InvalidEdit) = some false
def tabsOf (a : Ad) : List (Addr × Str) := []
structure Tbl (mg : Str → Option Value) (base : Heap) (a : Ad) : Prop where
  nd : ((tabsOf a).map (·.1)).Nodup
end

/-- the integers are states of a machine with so many -/
def okSt (n : Nat) (xs : List Int) : Prop := ∀ x ∈ xs, 0 ≤ x ∧ x < (n : Int)
/-- the steps have the form of those of a machine -/
def okSh (rs : List (List Int)) : Prop := (1 ≤ rs.length ∧ rs.length ≤ 40) ∧ (1 ≤ (rs.getD 0 []).length ∧ (rs.getD 0 []).length ≤ 4) ∧ ∀ r ∈ rs, r.length = (rs.getD 0 []).length
section
variable {P : Program} {w : World} {K : PySem.W.Frag} {mg : Str → Option Value} {base : Heap} {a : Ad}
def spStates (K : PySem.W.Frag) (a : Ad) : Sp := fun vs H Q E => ∃ (pl : Addr) (xs : List Int) (n : Nat), vs = [.ref pl, iV n] ∧ SqL K H pl (xs.map V.int) ∧ (∀ x ∈ xs, x.natAbs < 1000000) ∧ n ≤ 1000 ∧
  (okSt n xs → Q .non H) ∧ (¬ okSt n xs → E (.ref a.k_InvalidMachine) none H)
theorem ok_check_states (T : Txt K mg a) : FnOk P w K mg base (L2.CX P w) 1 a.f_check_states a.d_check_states ["states", "count"] (spStates K a) := by
  refine T.F_check_states.okX sc_check_states (fun vs H Q E h => ?_) (fun cdv A outer s H vs Q E hr h => ?_)
  · obtain ⟨pl, xs, n, rfl, _⟩ := h
    rfl
  · obtain ⟨pl, xs, n, rfl, hS, hab, n1, q, qe⟩ := h
    have zl : (sizeLine : Nat) = 16777216 := by decide
    refine ⟨_, (pss_one (ps_for (passes_of rfl) rfl (pi_listK (K := K) rfl (pv 0)) (pg_name (i := 2) sc_check_states.nd rfl (Or.inl rfl)) (pss_one (ps_if (pt_not (pt_chain op_le op_lt pe_int (pv 2) (pv 1))) (pss_one (ps_raise1 T.x_InvalidMachine rfl rfl rfl (takes_of rfl rfl rfl rfl) (by rfl) (pe_joined (PJ.cons pe_str (PJ.cons (pe_fmt (pv 1)) (PJ.cons pe_str PJ.nil)))))) pss_nil)))), ?_⟩
    walk_at "rd"
    refine ⟨⟨_, hS⟩, ?_⟩
    refine for_list (xs := xs.map V.int) (fun i σ G => (∃ y, σ = [some (.ref pl), some (iV n), y]) ∧ G = H ∧ okSt n (xs.take i)) ⟨⟨none, rfl⟩, rfl, fun x hx => nomatch hx⟩ (fun i σ G _ hP => ?_) (fun i x σ G hx hP => ?_) (fun σ G hP => ?_)
    · obtain ⟨_, rfl, _⟩ := hP
      exact hS
    · obtain ⟨⟨y, rfl⟩, rfl, hok⟩ := hP
      walk_at "rd"
      obtain ⟨z, hz, rfl⟩ : ∃ z, xs[i]? = some z ∧ V.int z = x := by
        rw [List.getElem?_map] at hx
        exact Option.map_eq_some_iff.mp hx
      have hzm := List.mem_of_getElem? hz
      refine r_I0 ⟨_, rfl, r_iteD (fun h0 => ?_) (fun h0 => ?_)⟩
      · walk_at "rd"
        refine r_I0 (j := (n : Int)) ⟨_, rfl, r_iteN (fun h1 => ?_) (fun h1 => ?_)⟩
        · refine r_raise1 (js_ok _ _ (fun t ht => ?_) (by decide) fun _ => qe fun hk => h1 (hk z hzm).2)
          simp only [List.mem_cons, List.not_mem_nil, or_false] at ht
          rcases ht with rfl | rfl | rfl
          · exact part_c (by decide)
          · exact part_i (i := (n : Int)) (log_lt (by omega)) fun Q q => r_var rfl q
          · exact part_c (by decide)
        · refine r_next ⟨⟨_, rfl⟩, rfl, fun x hx => ?_⟩
          rw [List.take_add_one, hz] at hx
          rcases List.mem_append.mp hx with hx | hx
          · exact hok x hx
          · rw [List.mem_singleton.mp hx]; exact ⟨h0, h1⟩
      · refine ⟨_, rfl, iteNF ?_⟩
        refine r_raise1 (js_ok _ _ (fun t ht => ?_) (by decide) fun _ => qe fun hk => h0 (hk z hzm).1)
        simp only [List.mem_cons, List.not_mem_nil, or_false] at ht
        rcases ht with rfl | rfl | rfl
        · exact part_c (by decide)
        · exact part_i (i := (n : Int)) (log_lt (by omega)) fun Q q => r_var rfl q
        · exact part_c (by decide)
    · obtain ⟨⟨y, rfl⟩, rfl, hok⟩ := hP
      rw [List.length_map, List.take_length] at hok
      exact q hok
def spShape (K : PySem.W.Frag) (a : Ad) : Sp := fun vs H Q E => ∃ (pl : Addr) (ps : List (Addr × List Int)), vs = [.ref pl] ∧ SqL K H pl (refsI ps) ∧ (∀ p ∈ ps, SqL K H p.1 (p.2.map V.int) ∧ p.2.length ≤ 1000) ∧ ps.length ≤ 1000 ∧
  (okSh (ps.map (·.2)) → ∀ H', Same H H' → Q .non H') ∧ (¬ okSh (ps.map (·.2)) → ∀ H', Same H H' → E (.ref a.k_InvalidMachine) none H')
theorem ok_check_shape (T : Txt K mg a) : FnOk P w K mg base (L2.CX P w) 1 a.f_check_shape a.d_check_shape ["steps"] (spShape K a) := by
  refine T.F_check_shape.okX sc_check_shape (fun vs H Q E h => ?_) (fun cdv A outer s H vs Q E hr h => ?_)
  · obtain ⟨pl, ps, rfl, _⟩ := h
    rfl
  · obtain ⟨pl, ps, rfl, hS, hps, big, q, qe⟩ := h
    have zl : (sizeLine : Nat) = 16777216 := by decide
    have lr := refsI_len ps
    have l1 : ((ps.map (·.2))).length = ps.length := List.length_map _
    have raise1 : ∀ (D : Ends) (σ : L2.St) (G : Hp) (ts : List TE), Same H G → (∀ t ∈ ts, Part σ G t) → ts.length ≤ 10 → ¬ okSh (ps.map (·.2)) → tRaise1 a.k_InvalidMachine (fun cls d x H => E cls d H) (fun σ H Q => tJs ts Str.empty σ H fun out H1 => Q (V.str out) H1) D σ G := fun D σ G ts sG ht hl hn =>
      r_raise1 (js_ok _ _ ht (by show 0 + _ ≤ _; omega) fun _ => qe hn G sG)
    have plen : ∀ (σ : L2.St) (G : Hp), Same H G → σ[0]? = some (some (.ref pl)) → Part σ G (tFmt (tCB (rLenQ K) (tCons (tVar 0) tNil))) := fun σ G sG h0 => by
      refine part_i (i := ((refsI ps).length : Int)) (log_lt (by rw [lr]; omega)) fun Q q => ?_
      refine r_cb (r_cons (r_var h0 (r_nil (r_lenL (sG.seq hS) q))))
    refine ⟨_, (pss_cons (ps_if (pt_not (pt_chain op_le op_le pe_int (pe_callB (call_lenQK (K := K) rfl) (by rfl) T.z_len (by decide +kernel) (pa_cons (pv 0) pa_nil)) (pe_glob (v := V.int 40) (by rfl) T.c_MOST_STATES.choose_spec ⟨_, rfl⟩))) (pss_one (ps_raise1 T.x_InvalidMachine rfl rfl rfl (takes_of rfl rfl rfl rfl) (by rfl) (pe_joined (PJ.cons (pe_fmt (pe_callB (call_lenQK (K := K) rfl) (by rfl) T.z_len (by decide +kernel) (pa_cons (pv 0) pa_nil))) (PJ.cons pe_str (PJ.cons (pe_fmt (pe_glob (v := V.int 40) (by rfl) T.c_MOST_STATES.choose_spec ⟨_, rfl⟩)) PJ.nil)))))) pss_nil)
      (pss_cons (ps_set (i := 1) sc_check_shape.nd rfl (Or.inl rfl) (pe_callB (call_lenQK (K := K) rfl) (by rfl) T.z_len (by decide +kernel) (pa_cons (pe_ix (ix_listK (K := K) rfl) (pv 0) pe_int (fun _ _ => rfl)) pa_nil)))
      (pss_cons (ps_if (pt_not (pt_chain op_le op_le pe_int (pv 1) (pe_callB call_lenS1 (by rfl) T.z_len (by decide +kernel) (pa_cons (pe_glob (v := V.str "abcd") (by rfl) T.c_LETTERS.choose_spec ⟨_, rfl⟩) pa_nil)))) (pss_one (ps_raise1 T.x_InvalidMachine rfl rfl rfl (takes_of rfl rfl rfl rfl) (by rfl) (pe_joined (PJ.cons (pe_fmt (pv 1)) (PJ.cons pe_str (PJ.cons (pe_fmt (pe_callB call_lenS1 (by rfl) T.z_len (by decide +kernel) (pa_cons (pe_glob (v := V.str "abcd") (by rfl) T.c_LETTERS.choose_spec ⟨_, rfl⟩) pa_nil))) PJ.nil)))))) pss_nil)
      (pss_one (ps_for (passes_of rfl) rfl (pi_enumK (K := K) rfl (by rfl) T.z_enumerate (pa_cons (pv 0) pa_nil)) (pg_tupK (K := K) rfl rfl (pgs_cons (pg_name (i := 2) sc_check_shape.nd rfl (Or.inl rfl)) (pgs_cons (pg_name (i := 3) sc_check_shape.nd rfl (Or.inl rfl)) pgs_nil))) (pss_one (ps_if (pt_cmpR op_ne (pe_callB (call_lenQK (K := K) rfl) (by rfl) T.z_len (by decide +kernel) (pa_cons (pv 3) pa_nil)) (pv 1) (nomark _)) (pss_one (ps_raise1 T.x_InvalidMachine rfl rfl rfl (takes_of rfl rfl rfl rfl) (by rfl) (pe_joined (PJ.cons pe_str (PJ.cons (pe_fmt (pv 2)) (PJ.cons pe_str (PJ.cons (pe_fmt (pe_callB (call_lenQK (K := K) rfl) (by rfl) T.z_len (by decide +kernel) (pa_cons (pv 3) pa_nil))) (PJ.cons pe_str (PJ.cons (pe_fmt (pv 1)) PJ.nil))))))))) pss_nil))))))), ?_⟩
    walk_at "rd"
    refine r_lenL hS ?_
    walk_at "rd"
    have three : ∀ {σ : L2.St} {G : Hp} {t1 t2 t3 : TE}, Part σ G t1 → Part σ G t2 → Part σ G t3 → ∀ t ∈ [t1, t2, t3], Part σ G t := fun h1 h2 h3 t ht => by
      simp only [List.mem_cons, List.not_mem_nil, or_false] at ht
      rcases ht with rfl | rfl | rfl
      · exact h1
      · exact h2
      · exact h3
    have p40 : ∀ (σ : L2.St) (G : Hp), Part σ G (tFmt (tC (.int 40))) := fun σ G => part_i (i := 40) (by decide) fun Q q => r_c q
    have p4 : ∀ (σ : L2.St) (G : Hp), Part σ G (tFmt (tCB rLenS1 (tCons (tC (V.str (Str.ofString "abcd"))) tNil))) := fun σ G => part_i (i := 4) (by decide) fun Q q => r_cb (r_cons (r_c (r_nil (r_lenS (by decide) q))))
    refine r_iteD (fun h1 => ?_) (fun h1 => ?_)
    rotate_left
    · refine ⟨_, rfl, iteNF ?_⟩
      refine raise1 _ _ _ _ (fun _ _ z => z) (three (plen _ _ (fun _ _ z => z) rfl) (part_c (by decide)) (p40 _ _)) (by show 3 ≤ 10; decide) fun hk => ?_
      have := hk.1.1
      omega
    walk_at "rd"
    refine r_iteN (fun h2 => ?_) (fun h2 => ?_)
    · refine raise1 _ _ _ _ (fun _ _ z => z) (three (plen _ _ (fun _ _ z => z) rfl) (part_c (by decide)) (p40 _ _)) (by show 3 ≤ 10; decide) fun hk => ?_
      have := hk.1.2
      omega
    rw [lr] at h1 h2
    obtain ⟨p0, hp0⟩ : ∃ p0, ps[0]? = some p0 := ⟨_, List.getElem?_eq_getElem (by omega)⟩
    obtain ⟨hS0, b0⟩ := hps p0 (List.mem_of_getElem? hp0)
    have e0 : ((ps.map (·.2)).getD 0 []) = p0.2 := by
      rw [List.getD_eq_getElem?_getD, List.getElem?_map, hp0]
      rfl
    refine r_next ?_
    walk_at "rd"
    refine r_ixL hS (at_refsI (i := 0) rfl hp0) ?_
    walk_at "rd"
    refine r_lenL hS0 ?_
    rw [List.length_map]
    walk_at "rd"
    have pw : ∀ (σ : L2.St) (G : Hp), σ[1]? = some (some (.int (p0.2.length : Int))) → Part σ G (tFmt (tVar 1)) := fun σ G hv => part_i (i := (p0.2.length : Int)) (log_lt (by omega)) fun Q q => r_var hv q
    refine r_iteD (fun h3 => ?_) (fun h3 => ?_)
    rotate_left
    · refine ⟨_, rfl, iteNF ?_⟩
      refine raise1 _ _ _ _ (fun _ _ z => z) (three (pw _ _ rfl) (part_c (by decide)) (p4 _ _)) (by show 3 ≤ 10; decide) fun hk => ?_
      have := hk.2.1.1
      rw [e0] at this
      omega
    walk_at "rd"
    refine r_lenS (by decide) ?_
    refine r_I0 (j := 4) ⟨_, rfl, r_iteN (fun h4 => ?_) (fun h4 => ?_)⟩
    · refine raise1 _ _ _ _ (fun _ _ z => z) (three (pw _ _ rfl) (part_c (by decide)) (p4 _ _)) (by show 3 ≤ 10; decide) fun hk => ?_
      have := hk.2.1.2
      rw [e0] at this
      omega
    walk_at "rd"
    with_reducible show tFor _ _ _ _ _ _
    refine r_iEnum ?_
    refine r_cons (r_var rfl (r_nil ⟨_, _, rfl, hS, ?_⟩))
    refine for_enL (xs := refsI ps) (fun i σ G => (∃ y2 y3, σ = [some (.ref pl), some (.int (p0.2.length : Int)), y2, y3]) ∧ Same H G ∧ ∀ p ∈ ps.take i, p.2.length = p0.2.length)
      ⟨⟨none, none, rfl⟩, fun _ _ z => z, fun p hp => nomatch hp⟩ (fun i σ G _ hP => hP.2.1.seq hS) (fun i x σ G t hx hP hT => ?_) (fun σ G hP => ?_)
    rotate_left
    · obtain ⟨_, sG, hall⟩ := hP
      rw [lr, List.take_length] at hall
      refine q ⟨by rw [l1]; omega, by rw [e0]; omega, fun r hr => ?_⟩ G sG
      obtain ⟨p, hp, rfl⟩ := List.mem_map.mp hr
      rw [e0]
      exact hall p hp
    obtain ⟨⟨y2, y3, rfl⟩, sG, hall⟩ := hP
    obtain ⟨p, hp, rfl⟩ := refsI_at hx
    have hpm := List.mem_of_getElem? hp
    have hi : i < ps.length := (List.getElem?_eq_some_iff.mp hp).1
    obtain ⟨hSp, bp⟩ := hps p hpm
    have sT := sG.trans (same_new (o := .tup [V.int (i : Nat), V.ref p.1]) hT)
    refine ⟨t, _, rfl, SqT.of upd_same, rfl, _, _, rfl, _, _, rfl, rfl, ?_⟩
    show tIfS _ _ _ _ _ _
    walk_at "rd"
    refine r_lenL (sT.seq hSp) ?_
    rw [List.length_map]
    walk_at "rd"
    refine r_iteN (fun h5 => ?_) (fun h5 => ?_)
    · refine raise1 _ _ _ _ sT (fun t ht => ?_) (by show 6 ≤ 10; decide) fun hk => ?_
      · simp only [List.mem_cons, List.not_mem_nil, or_false] at ht
        rcases ht with rfl | rfl | rfl | rfl | rfl | rfl
        · exact part_c (by decide)
        · exact part_i (i := (i : Int)) (log_lt (by omega)) fun Q q => r_var rfl q
        · exact part_c (by decide)
        · refine part_i (i := ((p.2.map V.int).length : Int)) (log_lt (by rw [List.length_map]; omega)) fun Q q => ?_
          exact r_cb (r_cons (r_var rfl (r_nil (r_lenL (sT.seq hSp) q))))
        · exact part_c (by decide)
        · exact pw _ _ rfl
      · have := hk.2.2 p.2 (List.mem_map_of_mem hpm)
        rw [e0] at this
        exact h5 (by rw [this])
    · refine r_next ⟨⟨_, _, rfl⟩, sT, fun r hr => ?_⟩
      rw [List.take_add_one, hp] at hr
      rcases List.mem_append.mp hr with hr | hr
      · exact hall r hr
      · rw [List.mem_singleton.mp hr]
        omega
end

def rowI (r : List Int) : PyData := .tuple (r.map .int)
def macI (ss : List (List Int)) (st : Int) (g : List Nat) : PyData := .tuple [.tuple (ss.map rowI), .int st, rowD g]
/-- what the document asks of a machine -/
def okMac (ss : List (List Int)) (st : Int) (gs : List Int) : Prop := okSh ss ∧ (∀ r ∈ ss, okSt ss.length r) ∧ (0 ≤ st ∧ st < (ss.length : Int)) ∧ okSt ss.length gs
def goodOf (n : Nat) (gs : List Int) : List Nat := normL n (gs.map Int.toNat)
section
variable {P : Program} {w : World} {K : PySem.W.Frag} {mg : Str → Option Value} {base : Heap} {a : Ad}
/-- the lists of a machine that is yet to be made -/
structure Lists (K : PySem.W.Frag) (H : Hp) (pl : Addr) (ps : List (Addr × List Int)) (pg : Addr) (gs : List Int) : Prop where
  s : SqL K H pl (refsI ps)
  r : ∀ p ∈ ps, SqL K H p.1 (p.2.map V.int) ∧ p.2.length ≤ 1000 ∧ ∀ x ∈ p.2, x.natAbs < 1000000
  n : ps.length ≤ 1000
  g : H pg = some (.lst (gs.map V.int))
  b : ∀ x ∈ gs, x.natAbs < 1000000
  l : gs.length ≤ 60
theorem Lists.same {H H' : Hp} {pl pg : Addr} {ps : List (Addr × List Int)} {gs : List Int} (L : Lists K H pl ps pg gs) (e : Same H H') : Lists K H' pl ps pg gs :=
  ⟨e.seq L.s, fun p hp => ⟨e.seq (L.r p hp).1, (L.r p hp).2⟩, L.n, e _ _ L.g, L.b, L.l⟩
theorem Lists.gq {H : Hp} {pl pg : Addr} {ps : List (Addr × List Int)} {gs : List Int} (L : Lists K H pl ps pg gs) : SqL K H pg (gs.map V.int) := SqL.of L.g
/-- tuple(sorted(set(gs))) -/
theorem good_tup {n : Nat} {gs : List Int} (h : okSt n gs) {ns : List Int} (pw : ns.Pairwise (· < ·)) (hm : ∀ k, k ∈ ns ↔ decide (k ∈ gs) = true) : ns.map V.int = (goodOf n gs).map iV := by
  refine norm_ints (xs := gs.map Int.toNat) pw (fun k => (hm k).trans ?_) (fun y hy => ?_)
  · rw [decide_eq_true_eq]
    refine ⟨fun hk => ⟨k.toNat, List.mem_map_of_mem hk, ?_⟩, fun ⟨y, hy, e⟩ => ?_⟩
    · have := h k hk
      omega
    · obtain ⟨x, hx, rfl⟩ := List.mem_map.mp hy
      have := h x hx
      rw [e, show ((x.toNat : Nat) : Int) = x by omega]
      exact hx
  · obtain ⟨x, hx, rfl⟩ := List.mem_map.mp hy
    have := h x hx
    omega
def spMake (K : PySem.W.Frag) (a : Ad) : Sp := fun vs H Q E => ∃ (pl pg : Addr) (ps : List (Addr × List Int)) (st : Int) (gs : List Int), vs = [.ref pl, .int st, .ref pg] ∧ Lists K H pl ps pg gs ∧ st.natAbs < 1000000 ∧
  (okMac (ps.map (·.2)) st gs → ∀ H' v, Same H H' → Dt K H' v (macI (ps.map (·.2)) st (goodOf ps.length gs)) → Q v H') ∧ (¬ okMac (ps.map (·.2)) st gs → ∀ H', Same H H' → E (.ref a.k_InvalidMachine) none H')
theorem ok_make_machine (T : Txt K mg a) : FnOk P w K mg base (L2.CX P w) 2 a.f_make_machine a.d_make_machine ["steps", "start", "good"] (spMake K a) := by
  have G_check_shape := ok_check_shape (P := P) (w := w) (base := base) T
  have G_check_states := ok_check_states (P := P) (w := w) (base := base) T
  refine T.F_make_machine.okX sc_make_machine (fun vs H Q E h => ?_) (fun cdv A outer s H vs Q E hr h => ?_)
  · obtain ⟨pl, pg, ps, st, gs, rfl, _⟩ := h
    rfl
  · obtain ⟨pl, pg, ps, st, gs, rfl, L, bst, q, qe⟩ := h
    have zl : (sizeLine : Nat) = 16777216 := by decide
    have lr := refsI_len ps
    have l1 : ((ps.map (·.2))).length = ps.length := List.length_map _
    refine ⟨_, (pss_cons (ps_expr (pe_callS (G_check_shape) (hr.mono (by first | decide | omega)) (by rfl) T.g_check_shape T.F_check_shape.kp T.b_check_shape (fun σ => passAt (takes_of rfl rfl rfl rfl) σ) (pa_cons (pv 0) pa_nil)))
      (pss_cons (ps_for (passes_of rfl) rfl (pi_listK (K := K) rfl (pv 0)) (pg_name (i := 3) sc_make_machine.nd rfl (Or.inl rfl)) (pss_one (ps_expr (pe_callS (G_check_states) (hr.mono (by first | decide | omega)) (by rfl) T.g_check_states T.F_check_states.kp T.b_check_states (fun σ => passAt (takes_of rfl rfl rfl rfl) σ) (pa_cons (pv 3) (pa_cons (pe_callB (call_lenQK (K := K) rfl) (by rfl) T.z_len (by decide +kernel) (pa_cons (pv 0) pa_nil)) pa_nil))))))
      (pss_cons (ps_expr (pe_callS (G_check_states) (hr.mono (by first | decide | omega)) (by rfl) T.g_check_states T.F_check_states.kp T.b_check_states (fun σ => passAt (takes_of rfl rfl rfl rfl) σ) (pa_cons (pe_lst (pa_cons (pv 1) pa_nil)) (pa_cons (pe_callB (call_lenQK (K := K) rfl) (by rfl) T.z_len (by decide +kernel) (pa_cons (pv 0) pa_nil)) pa_nil))))
      (pss_cons (ps_expr (pe_callS (G_check_states) (hr.mono (by first | decide | omega)) (by rfl) T.g_check_states T.F_check_states.kp T.b_check_states (fun σ => passAt (takes_of rfl rfl rfl rfl) σ) (pa_cons (pv 2) (pa_cons (pe_callB (call_lenQK (K := K) rfl) (by rfl) T.z_len (by decide +kernel) (pa_cons (pv 0) pa_nil)) pa_nil))))
      (pss_one (ps_ret (pe_tup (pa_cons (pe_callTy (call_tupOfK (K := K) rfl) (by rfl) T.z_tuple (by decide +kernel) (pa_cons (pe_lc (own := [("row", 3)]) (g := gName 3) (tt := tYes) rfl sc_make_machine.nd (pi_listK (K := K) rfl (pv 0)) (blkOk_by (N := N_make_machine) (sc := (defScope s_make_machine)) (by decide +kernel)) (fun _ _ _ _ _ => pg_name (i := 3) sc_make_machine.nd rfl (by first | exact Or.inl rfl | exact Or.inr rfl)) (fun _ _ _ _ _ => pts_nil) (fun _ _ _ _ _ => (pe_callTy (call_tupOfK (K := K) rfl) (by rfl) T.z_tuple (by decide +kernel) (pa_cons (pv 3) pa_nil)))) pa_nil)) (pa_cons (pv 1) (pa_cons (pe_callTy (call_tupOfK (K := K) rfl) (by rfl) T.z_tuple (by decide +kernel) (pa_cons (pe_callB (cr_sortedSetW (w := w) rfl rfl) (by rfl) T.z_sorted (by decide +kernel) (pa_cons (pe_callTy (cr_setLw (K := K) (w := w) rfl rfl rfl) (by rfl) T.z_set (by decide +kernel) (pa_cons (pv 2) pa_nil)) pa_nil)) pa_nil)) pa_nil)))))))))), ?_⟩
    walk_at "rd"
    refine r_callS ?_
    walk_at "rd"
    refine ⟨pl, ps, rfl, L.s, fun p hp => ⟨(L.r p hp).1, (L.r p hp).2.1⟩, L.n, fun hsh H1 s1 => ?_, fun hn H1 s1 => qe (fun hk => hn hk.1) H1 s1⟩
    walk_at "rd"
    refine ⟨⟨_, s1.seq L.s⟩, ?_⟩
    refine for_list (xs := refsI ps) (fun i σ G => (∃ y, σ = [some (.ref pl), some (.int st), some (.ref pg), y]) ∧ Same H G ∧ ∀ p ∈ ps.take i, okSt ps.length p.2) ⟨⟨none, rfl⟩, s1, fun x hx => nomatch hx⟩ (fun i σ G _ hP => hP.2.1.seq L.s) (fun i x σ G hx hP => ?_) (fun σ G hP => ?_)
    · obtain ⟨⟨y, rfl⟩, sG, hall⟩ := hP
      obtain ⟨p, hp, rfl⟩ := refsI_at hx
      obtain ⟨r1, r2, r3⟩ := L.r p (List.mem_of_getElem? hp)
      walk_at "rd"
      refine r_callS ?_
      walk_at "rd"
      refine r_lenL (sG.seq L.s) ?_
      walk_at "rd"
      rw [lr]
      refine ⟨p.1, p.2, ps.length, rfl, sG.seq r1, r3, L.n, fun hk => ?_, fun hk => qe (fun z => hk ?_) _ sG⟩
      · refine ⟨⟨_, rfl⟩, sG, fun p' hp' => ?_⟩
        rw [List.take_add_one, hp] at hp'
        rcases List.mem_append.mp hp' with hp' | hp'
        · exact hall p' hp'
        · rw [List.mem_singleton.mp hp']
          exact hk
      · have := z.2.1 p.2 (List.mem_map_of_mem (List.mem_of_getElem? hp))
        rw [l1] at this
        exact this
    obtain ⟨⟨y, rfl⟩, sG, hall⟩ := hP
    rw [lr, List.take_length] at hall
    walk_at "rd"
    refine r_callS ?_
    walk_at "rd"
    refine ⟨ln1, fun p1 hp1 => ?_⟩
    have sG1 := sG.trans (same_new (o := .lst [V.int st]) hp1)
    walk_at "rd"
    refine r_lenL (sG1.seq L.s) ?_
    walk_at "rd"
    rw [lr]
    refine ⟨p1, [st], ps.length, rfl, SqL.of upd_same, fun x hx => by rw [List.mem_singleton.mp hx]; exact bst, L.n, fun hst => ?_, fun hk => qe (fun z => hk fun x hx => ?_) _ sG1⟩
    rotate_left
    · rw [List.mem_singleton.mp hx]
      have := z.2.2.1
      rw [l1] at this
      exact this
    generalize upd G p1 (.lst [V.int st]) = G1 at *
    walk_at "rd"
    refine r_callS ?_
    walk_at "rd"
    refine r_lenL (sG1.seq L.s) ?_
    walk_at "rd"
    rw [lr]
    refine ⟨pg, gs, ps.length, rfl, sG1.seq L.gq, L.b, L.n, fun hgs => ?_, fun hk => qe (fun z => hk ?_) _ sG1⟩
    rotate_left
    · have := z.2.2.2
      rw [l1] at this
      exact this
    walk_at "rd"
    refine ⟨⟨_, sG1.seq L.s⟩, fun D hD => ?_⟩
    refine lc_list (xs := refsI ps) (fun j G3 => Same G1 G3 ∧ ∃ vs : List V, G3 D = some (.lst vs) ∧ DtAll K G3 vs ((ps.take j).map fun p => rowI p.2)) ⟨same_new hD, [], upd_same, .nil⟩ (fun j G3 _ hP => (sG1.trans hP.1).seq L.s) (fun j x G3 hx hP => ?_) (fun G3 hP => ?_)
    · obtain ⟨sG3, vs, hG3, hdt⟩ := hP
      obtain ⟨p, hp, rfl⟩ := refsI_at hx
      have hj := (List.getElem?_eq_some_iff.mp hp).1
      refine ⟨rfl, r_yes (iteT ?_)⟩
      walk_at "rd"
      refine r_tupL ((sG1.trans sG3).seq (L.r p (List.mem_of_getElem? hp)).1) (fun t ht => ?_)
      have s4 := same_new (o := .tup (p.2.map V.int)) ht
      refine ⟨vs, s4 _ _ hG3, ?_, same_mut (sG3.trans s4) hD, vs ++ [.ref t], upd_same, ?_⟩
      · have := hdt.len
        have := L.n
        rw [List.length_map, List.length_take] at *
        omega
      · rw [List.take_add_one, hp, List.map_append]
        have sT : SameT (upd G3 t (.tup (p.2.map V.int))) (upd (upd G3 t (.tup (p.2.map V.int))) D (.lst (vs ++ [.ref t]))) := SameT.lst (s4 _ _ hG3)
        exact (hdt.k ((sT_of s4).trans sT)).snoc (.tup (sT.sq (SqT.of upd_same)) (DtAll.map (fun i => .int i) p.2))
    · obtain ⟨sG3, vs, hG3, hdt⟩ := hP
      rw [lr, List.take_length] at hdt
      walk_at "rd"
      refine r_tupL (SqL.of hG3) (fun ts hts => ?_)
      have s4 := sG1.trans (sG3.trans (same_new (o := .tup vs) hts))
      have hdt4 := hdt.k (sT_of (same_new (o := .tup vs) hts))
      have hts4 : (upd G3 ts (.tup vs)) ts = some (.tup vs) := upd_same
      generalize upd G3 ts (.tup vs) = G4 at *
      walk_at "rd"
      refine ⟨pg, gs, rfl, s4.seq L.gq, by have := L.l; omega, fun p c0 hc0 hp => ?_⟩
      walk_at "rd"
      have := L.l
      refine ⟨p, _, c0, rfl, upd_same, by omega, fun ns p2 pw hm hl hp2 => ?_⟩
      rw [good_tup hgs pw hm]
      walk_at "rd"
      refine r_tupL (SqL.of upd_same) (fun t2 ht2 => ?_)
      walk_at "rd"
      refine ⟨ln3, fun t ht => ?_⟩
      have s5 := same_new (o := SetO w p (fun j => decide (j ∈ gs)) c0) hp
      have s6 := same_new (o := .lst ((goodOf ps.length gs).map iV)) hp2
      have s7 := same_new (o := .tup ((goodOf ps.length gs).map iV)) ht2
      have s8 := same_new (o := .tup [V.ref ts, V.int st, V.ref t2]) ht
      have h7 := s8 _ _ (upd_same (H := upd (upd G4 p (SetO w p (fun j => decide (j ∈ gs)) c0)) p2 (.lst ((goodOf ps.length gs).map iV))) (a := t2) (o := .tup ((goodOf ps.length gs).map iV)))
      refine q ⟨hsh, ?_, ?_, ?_⟩ _ _ (s4.trans (s5.trans (s6.trans (s7.trans s8)))) ?_
      · intro r hr
        obtain ⟨p, hp, rfl⟩ := List.mem_map.mp hr
        rw [l1]
        exact hall p hp
      · rw [l1]
        exact hst st (List.mem_singleton.mpr rfl)
      · rw [l1]
        exact hgs
      · unfold macI
        rw [List.map_map]
        refine .tup (SqT.of upd_same) (.cons (.tup (SqT.of ((s5.trans (s6.trans (s7.trans s8))) _ _ hts4)) (hdt4.k (sT_of (s5.trans (s6.trans (s7.trans s8)))))) (.cons (.int st) (.cons (.tup (SqT.of h7) (ofNats _)) .nil)))
end

section
variable {P : Program} {w : World} {K : PySem.W.Frag} {mg : Str → Option Value} {base : Heap} {a : Ad}
theorem ok_l_cell (T : Txt K mg a) : FnOk P w K mg base CX0 1 a.f_l_cell a.d_l_cell ["script", "k"] (spCellG K) := by
  refine T.F_l_cell.ok sc_l_cell (fun vs H Q E h => ?_) (fun cdv A outer s H vs Q E hr h => ?_)
  · obtain ⟨l, ns, k, rfl, _⟩ := h
    rfl
  · obtain ⟨l, ns, k, rfl, hS, h0, q⟩ := h
    refine ⟨_, (pss_cons (ps_if (pt_cmpR op_lt (pv 1) (pe_callB (call_lenQK (K := K) rfl) (by rfl) T.z_len (by decide +kernel) (pa_cons (pv 0) pa_nil)) (nomark _)) (pss_one (ps_ret (pe_ix (ix_listK (K := K) rfl) (pv 0) (pv 1) (fun _ _ => rfl)))) pss_nil)
      (pss_one (ps_ret pe_int))), ?_⟩
    walk_at "rd"
    refine r_lenL hS ?_
    walk_at "rd"
    rw [List.length_map]
    refine r_iteD (fun hk => ?_) (fun hk => ?_)
    · walk_at "rd"
      have hk' : k.toNat < ns.length := by omega
      refine r_ixL hS (at_of (j := k.toNat) (by omega) (by rw [List.getElem?_map, List.getElem?_eq_getElem hk']; rfl)) ?_
      have e : cellV ns k = ns[k.toNat] := by unfold cellV; rw [List.getD_eq_getElem?_getD, List.getElem?_eq_getElem hk']; rfl
      rw [e] at q
      exact q
    · walk_at "rd"
      have e : cellV ns k = 0 := by unfold cellV; rw [List.getD_eq_getElem?_getD, List.getElem?_eq_none (by omega)]; rfl
      rw [e] at q
      exact q

theorem ok_l_numbers (T : Txt K mg a) : FnOk P w K mg base CX0 1 a.f_l_numbers a.d_l_numbers ["cell", "count"] (spNums K) := by
  refine T.F_l_numbers.ok sc_l_numbers (fun vs H Q E h => ?_) (fun cdv A outer s H vs Q E hr h => ?_)
  · obtain ⟨c, n, rfl, _⟩ := h
    rfl
  · obtain ⟨c, n, rfl, hn, q⟩ := h
    refine ⟨_, (pss_cons (ps_set (i := 2) sc_l_numbers.nd rfl (Or.inl rfl) (pe_lst pa_nil))
      (pss_cons (ps_if (pt_cmpR op_ge (pv 0) (pe_op op_pow pe_int pe_int) (nomark _)) (pss_cons (ps_for PassesOwn.never rfl (pi_range1 (by rfl) T.z_range (pa_cons (pv 1) pa_nil)) (pg_name (i := 3) sc_l_numbers.nd rfl (Or.inl rfl)) (pss_cons (ps_expr (bmK (K := K) rfl (pe_bm PySem.F.plainAttrs_list PySem.F.slot_list_append PySem.F.type_list_append mt_append (pv 2) (pa_cons (pe_op op_mod (pe_callTy call_int1' (by rfl) T.z_int (by decide +kernel) (pa_cons (pv 0) pa_nil)) pe_int) pa_nil))))
      (pss_one (ps_set (i := 0) sc_l_numbers.nd rfl (Or.inl rfl) (pe_op op_fdiv (pv 0) pe_int)))))
      (pss_one (ps_ret (pv 2)))) pss_nil)
      (pss_cons (ps_set (i := 4) sc_l_numbers.nd rfl (Or.inl rfl) (pe_op op_mod (pe_callTy call_int1' (by rfl) T.z_int (by decide +kernel) (pa_cons (pv 0) pa_nil)) pe_int))
      (pss_cons (ps_for PassesOwn.never rfl (pi_range1 (by rfl) T.z_range (pa_cons (pv 1) pa_nil)) (pg_name (i := 3) sc_l_numbers.nd rfl (Or.inl rfl)) (pss_cons (ps_set (i := 4) sc_l_numbers.nd rfl (Or.inl rfl) (pe_op op_mod (pe_callTy call_int1' (by rfl) T.z_int (by decide +kernel) (pa_cons (pe_op op_add (pe_op op_mul (pv 4) pe_int) (pe_op op_mul pe_int (pe_op op_add (pv 3) pe_int))) pa_nil)) pe_int))
      (pss_one (ps_expr (bmK (K := K) rfl (pe_bm PySem.F.plainAttrs_list PySem.F.slot_list_append PySem.F.type_list_append mt_append (pv 2) (pa_cons (pe_op op_mod (pe_op op_fdiv (pv 4) pe_int) pe_int) pa_nil)))))))
      (pss_one (ps_ret (pv 2))))))), ?_⟩
    have zl : (sizeLine : Nat) = 16777216 := by decide
    walk_at "rd"
    refine ⟨by decide, fun p hp => ?_⟩
    walk_at "rd"
    refine r_iteD (fun _ => ?_) (fun _ => ?_)
    · walk_at "rd"
      refine r_rng1' (by omega) (by omega) ?_
      rw [Int.toNat_natCast]
      refine for_range (lo := 0) (n := n) (fun i σ H' => ∃ c' ns y3, σ = [some (.int c'), some (.int (n : Int)), some (.ref p), y3, none] ∧ Same H H' ∧ H' p = some (.lst (ns.map V.int)) ∧ ns.length = i ∧ ∀ z ∈ ns, 0 ≤ z ∧ z < 1000)
        ⟨c, [], none, rfl, same_new hp, upd_same, rfl, fun z hz => nomatch hz⟩ (fun i σ H' hi hP => ?_) (fun σ H' hP => ?_)
      · obtain ⟨c', ns, y3, rfl, sm, hN, hl, hz⟩ := hP
        walk_at "rd"
        refine ⟨ty_l (SqL.of hN), ?_⟩
        walk_at "rd"
        refine r_append hN (by rw [List.length_map]; omega) ?_
        walk_at "rd"
        refine ⟨_, ns ++ [c' % 1000], _, rfl, same_mut sm hp, by rw [upd_same, List.map_append]; rfl, by rw [List.length_append, hl]; rfl, fun z h => ?_⟩
        rcases List.mem_append.mp h with h | h
        · exact hz z h
        · rw [List.mem_singleton.mp h]; exact emod_rng _ (by decide)
      · obtain ⟨c', ns, y3, rfl, sm, hN, hl, hz⟩ := hP
        walk_at "rd"
        exact q H' p ns sm hp hN hl hz
    · walk_at "rd"
      refine r_rng1' (by omega) (by omega) ?_
      rw [Int.toNat_natCast]
      refine for_range (lo := 0) (n := n) (fun i σ H' => ∃ m ns y3, σ = [some (.int c), some (.int (n : Int)), some (.ref p), y3, some (.int m)] ∧ Same H H' ∧ H' p = some (.lst (ns.map V.int)) ∧ ns.length = i ∧ ∀ z ∈ ns, 0 ≤ z ∧ z < 1000)
        ⟨_, [], none, rfl, same_new hp, upd_same, rfl, fun z hz => nomatch hz⟩ (fun i σ H' hi hP => ?_) (fun σ H' hP => ?_)
      · obtain ⟨m, ns, y3, rfl, sm, hN, hl, hz⟩ := hP
        walk_at "rd"
        refine ⟨ty_l (SqL.of hN), ?_⟩
        walk_at "rd"
        refine r_append hN (by rw [List.length_map]; omega) ?_
        refine ⟨_, ns ++ [_ / 7 % 1000], _, rfl, same_mut sm hp, by rw [upd_same, List.map_append]; rfl, by rw [List.length_append, hl]; rfl, fun z h => ?_⟩
        rcases List.mem_append.mp h with h | h
        · exact hz z h
        · rw [List.mem_singleton.mp h]; exact emod_rng _ (by decide)
      · obtain ⟨m, ns, y3, rfl, sm, hN, hl, hz⟩ := hP
        walk_at "rd"
        exact q H' p ns sm hp hN hl hz

end

section
variable {P : Program} {w : World} {K : PySem.W.Frag} {mg : Str → Option Value} {base : Heap} {a : Ad}
theorem ok_l_same_n (T : Txt K mg a) : ∀ n, FnOk P w K mg base CX0 n a.f_l_same a.d_l_same ["actual", "due"] (spSame K n)
  | 0 => fn_vac fun vs H Q E h => by
    obtain ⟨x, y, d, _, _, _, hf, _⟩ := h
    cases d <;> exact hf
  | n + 1 => by
    have G_l_same := ok_l_same_n T n
    refine T.F_l_same.ok sc_l_same (fun vs H Q E h => ?_) (fun cdv A outer s H vs Q E hr h => ?_)
    · obtain ⟨x, y, d, rfl, _⟩ := h
      rfl
    · obtain ⟨x, y, d, rfl, hx, hy, hf, q⟩ := h
      refine ⟨_, (pss_cons (ps_if (pt_cmpR op_isN1 (pv 1) pe_non (nomark _)) (pss_one (ps_ret (pe_cmpR op_isN1 (pv 0) pe_non (nomark _)))) pss_nil)
      (pss_cons (ps_if (PW.pt (pw_or (pt_val (pe_callB (call_isiK1 (K := K) rfl) (by rfl) T.z_isinstance (by decide +kernel) (pa_cons (pv 1) (pa_cons (pe_bltn (by rfl) T.z_list (v := V.ty "list") (u := Value.type "list") (by decide +kernel) rfl) pa_nil)))) (pw_or1 (pt_val (pe_callB (call_isiK1 (K := K) rfl) (by rfl) T.z_isinstance (by decide +kernel) (pa_cons (pv 1) (pa_cons (pe_bltn (by rfl) T.z_tuple (v := V.ty "tuple") (u := Value.type "tuple") (by decide +kernel) rfl) pa_nil))))))) (pss_cons (ps_if (PW.pt (pw_or (pt_cmpR op_ne (pe_callB (call_isiK1 (K := K) rfl) (by rfl) T.z_isinstance (by decide +kernel) (pa_cons (pv 1) (pa_cons (pe_bltn (by rfl) T.z_list (v := V.ty "list") (u := Value.type "list") (by decide +kernel) rfl) pa_nil))) (pe_callB (call_isiK1 (K := K) rfl) (by rfl) T.z_isinstance (by decide +kernel) (pa_cons (pv 0) (pa_cons (pe_bltn (by rfl) T.z_list (v := V.ty "list") (u := Value.type "list") (by decide +kernel) rfl) pa_nil))) (nomark _)) (pw_or1 (pt_cmpR op_ne (pe_callB (call_isiK1 (K := K) rfl) (by rfl) T.z_isinstance (by decide +kernel) (pa_cons (pv 1) (pa_cons (pe_bltn (by rfl) T.z_tuple (v := V.ty "tuple") (u := Value.type "tuple") (by decide +kernel) rfl) pa_nil))) (pe_callB (call_isiK1 (K := K) rfl) (by rfl) T.z_isinstance (by decide +kernel) (pa_cons (pv 0) (pa_cons (pe_bltn (by rfl) T.z_tuple (v := V.ty "tuple") (u := Value.type "tuple") (by decide +kernel) rfl) pa_nil))) (nomark _))))) (pss_one (ps_ret pe_bl)) pss_nil)
      (pss_cons (ps_if (pt_cmpR op_ne (pe_callB (call_lenQK (K := K) rfl) (by rfl) T.z_len (by decide +kernel) (pa_cons (pv 0) pa_nil)) (pe_callB (call_lenQK (K := K) rfl) (by rfl) T.z_len (by decide +kernel) (pa_cons (pv 1) pa_nil)) (nomark _)) (pss_one (ps_ret pe_bl)) pss_nil)
      (pss_cons (ps_for PassesOwn.never rfl (pi_range1 (by rfl) T.z_range (pa_cons (pe_callB (call_lenQK (K := K) rfl) (by rfl) T.z_len (by decide +kernel) (pa_cons (pv 1) pa_nil)) pa_nil)) (pg_name (i := 2) sc_l_same.nd rfl (Or.inl rfl)) (pss_one (ps_if (pt_not (pt_val (pe_call (G_l_same) (hr.mono (by first | decide | omega)) (by rfl) T.g_l_same T.F_l_same.kp T.b_l_same .nil pass0 (pa_cons (pe_ix (ix_seqK (K := K) rfl) (pv 0) (pv 2) (fun _ _ => rfl)) (pa_cons (pe_ix (ix_seqK (K := K) rfl) (pv 1) (pv 2) (fun _ _ => rfl)) pa_nil))))) (pss_one (ps_ret pe_bl)) pss_nil)))
      (pss_one (ps_ret pe_bl))))) pss_nil)
      (pss_cons (ps_if (PW.pt (pw_or (pt_cmpR op_ne (pe_callB (call_isiK1 (K := K) rfl) (by rfl) T.z_isinstance (by decide +kernel) (pa_cons (pv 1) (pa_cons (pe_bltn (by rfl) T.z_bool (v := V.ty "bool") (u := Value.type "bool") (by decide +kernel) rfl) pa_nil))) (pe_callB (call_isiK1 (K := K) rfl) (by rfl) T.z_isinstance (by decide +kernel) (pa_cons (pv 0) (pa_cons (pe_bltn (by rfl) T.z_bool (v := V.ty "bool") (u := Value.type "bool") (by decide +kernel) rfl) pa_nil))) (nomark _)) (pw_or1 (pt_cmpR op_ne (pe_callB (call_isiK1 (K := K) rfl) (by rfl) T.z_isinstance (by decide +kernel) (pa_cons (pv 1) (pa_cons (pe_bltn (by rfl) T.z_int (v := V.ty "int") (u := Value.type "int") (by decide +kernel) rfl) pa_nil))) (pe_callB (call_isiK1 (K := K) rfl) (by rfl) T.z_isinstance (by decide +kernel) (pa_cons (pv 0) (pa_cons (pe_bltn (by rfl) T.z_int (v := V.ty "int") (u := Value.type "int") (by decide +kernel) rfl) pa_nil))) (nomark _))))) (pss_one (ps_ret pe_bl)) pss_nil)
      (pss_one (ps_ret (pe_and (pe_cmpR op_eq (pe_callB (call_isiK1 (K := K) rfl) (by rfl) T.z_isinstance (by decide +kernel) (pa_cons (pv 1) (pa_cons (pe_bltn (by rfl) T.z_str (v := V.ty "str") (u := Value.type "str") (by decide +kernel) rfl) pa_nil))) (pe_callB (call_isiK1 (K := K) rfl) (by rfl) T.z_isinstance (by decide +kernel) (pa_cons (pv 0) (pa_cons (pe_bltn (by rfl) T.z_str (v := V.ty "str") (u := Value.type "str") (by decide +kernel) rfl) pa_nil))) (nomark _)) (pe_one (pe_cmpR op_eq (pv 0) (pv 1) (nomark _))))))))), ?_⟩
      walk_at "rd"
      cases d with
      | none =>
        cases hx; cases hy
        refine r_iteD (fun _ => ?_) (fun e => absurd rfl e)
        walk_at "rd"
        exact q
      | bool b =>
        cases hx; cases hy
        refine r_iteD (fun e => nomatch e) (fun _ => ?_)
        walk_at "rd"
        refine r_iteN (fun e => absurd rfl e) (fun _ => ?_)
        walk_at "rd"
        refine r_iteN (fun e => absurd rfl e) (fun _ => ?_)
        walk_at "rd"
        refine r_iteD (fun _ => ?_) (fun e => absurd rfl e)
        walk_at "rd"
        rw [decide_eq_true rfl]
        exact q
      | int b =>
        cases hx; cases hy
        refine r_iteD (fun e => nomatch e) (fun _ => ?_)
        walk_at "rd"
        refine r_iteN (fun e => absurd rfl e) (fun _ => ?_)
        walk_at "rd"
        refine r_iteN (fun e => absurd rfl e) (fun _ => ?_)
        walk_at "rd"
        refine r_iteD (fun _ => ?_) (fun e => absurd rfl e)
        walk_at "rd"
        rw [decide_eq_true rfl]
        exact q
      | str b =>
        cases hx; cases hy
        refine r_iteD (fun e => nomatch e) (fun _ => ?_)
        walk_at "rd"
        refine r_iteN (fun e => absurd rfl e) (fun _ => ?_)
        walk_at "rd"
        refine r_iteN (fun e => absurd rfl e) (fun _ => ?_)
        walk_at "rd"
        refine r_iteD (fun _ => ?_) (fun e => absurd rfl e)
        walk_at "rd"
        rw [decide_eq_true rfl]
        exact q
      | dict _ => exact hf.elim
      | list ds =>
        cases hx with
        | lst hs1 ha1 =>
        cases hy with
        | lst hs2 ha2 =>
        have e1 := dpAll_len ha1
        have e2 := dpAll_len ha2
        refine r_iteD (fun e => nomatch e) (fun _ => ?_)
        walk_at "rd"
        refine r_iteN (fun e => absurd rfl e) (fun _ => ?_)
        walk_at "rd"
        refine r_iteN (fun e => absurd rfl e) (fun _ => ?_)
        walk_at "rd"
        refine r_lenL hs1 ?_
        walk_at "rd"
        refine r_lenL hs2 ?_
        walk_at "rd"
        refine r_iteN (fun e => absurd (by rw [e1, e2]) e) (fun _ => ?_)
        walk_at "rd"
        refine r_lenL hs2 ?_
        walk_at "rd"
        have hz : ds.length ≤ 16777216 := hf.1
        refine r_rng1' (by omega) (by omega) ?_
        rw [e2, Int.toNat_natCast]
        refine for_range (lo := 0) (n := ds.length) (fun i σ H' => H' = H ∧ ∃ kv, σ = [some _, some _, kv]) ⟨rfl, _, rfl⟩ (fun i σ H' hi hP => ?_) (fun σ H' hP => ?_)
        · obtain ⟨rfl, kv, rfl⟩ := hP
          obtain ⟨v1, g1, d1⟩ := dpAll_get ha1 (List.getElem?_eq_getElem hi)
          obtain ⟨v2, g2, d2⟩ := dpAll_get ha2 (List.getElem?_eq_getElem hi)
          show tIfS _ _ _ _ _ _
          walk_at "rd"
          refine r_xL hs1 (at_of (j := i) (by omega) g1) ?_
          walk_at "rd"
          refine r_xL hs2 (at_of (j := i) (by omega) g2) ?_
          walk_at "rd"
          refine ⟨v1, v2, ds[i], rfl, d1, d2, hf.2 _ (List.getElem_mem hi), ?_⟩
          walk_at "rd"
          exact ⟨rfl, _, rfl⟩
        · obtain ⟨rfl, kv, rfl⟩ := hP
          walk_at "rd"
          exact q
      | tuple ds =>
        cases hx with
        | tup hs1 ha1 =>
        cases hy with
        | tup hs2 ha2 =>
        have e1 := dpAll_len ha1
        have e2 := dpAll_len ha2
        refine r_iteD (fun e => nomatch e) (fun _ => ?_)
        walk_at "rd"
        refine r_iteN (fun e => absurd rfl e) (fun _ => ?_)
        walk_at "rd"
        refine r_iteN (fun e => absurd rfl e) (fun _ => ?_)
        walk_at "rd"
        refine r_lenT hs1 ?_
        walk_at "rd"
        refine r_lenT hs2 ?_
        walk_at "rd"
        refine r_iteN (fun e => absurd (by rw [e1, e2]) e) (fun _ => ?_)
        walk_at "rd"
        refine r_lenT hs2 ?_
        walk_at "rd"
        have hz : ds.length ≤ 16777216 := hf.1
        refine r_rng1' (by omega) (by omega) ?_
        rw [e2, Int.toNat_natCast]
        refine for_range (lo := 0) (n := ds.length) (fun i σ H' => H' = H ∧ ∃ kv, σ = [some _, some _, kv]) ⟨rfl, _, rfl⟩ (fun i σ H' hi hP => ?_) (fun σ H' hP => ?_)
        · obtain ⟨rfl, kv, rfl⟩ := hP
          obtain ⟨v1, g1, d1⟩ := dpAll_get ha1 (List.getElem?_eq_getElem hi)
          obtain ⟨v2, g2, d2⟩ := dpAll_get ha2 (List.getElem?_eq_getElem hi)
          show tIfS _ _ _ _ _ _
          walk_at "rd"
          refine r_xT hs1 (at_of (j := i) (by omega) g1) ?_
          walk_at "rd"
          refine r_xT hs2 (at_of (j := i) (by omega) g2) ?_
          walk_at "rd"
          refine ⟨v1, v2, ds[i], rfl, d1, d2, hf.2 _ (List.getElem_mem hi), ?_⟩
          walk_at "rd"
          exact ⟨rfl, _, rfl⟩
        · obtain ⟨rfl, kv, rfl⟩ := hP
          walk_at "rd"
          exact q
theorem ok_l_same (T : Txt K mg a) : FnOk P w K mg base CX0 4 a.f_l_same a.d_l_same ["actual", "due"] (spSame K 4) := ok_l_same_n T _

end

section
variable {P : Program} {w : World} {K : PySem.W.Frag} {mg : Str → Option Value} {base : Heap} {a : Ad}
def badI (n : Nat) (x : Int) : Bool := decide (x < 0) || decide (x ≥ (n : Int))
theorem bad_nil {n : Nat} {xs : List Int} : xs.filter (badI n) = [] ↔ okSt n xs := by
  rw [List.filter_eq_nil_iff]
  constructor
  · intro h x hx
    have := h x hx
    simp [badI] at this
    omega
  · intro h x hx
    have := h x hx
    simp [badI]
    omega
theorem eqv_nilI (xs : List Int) : PyData.eqv (.list (xs.map .int)) (.list (([] : List Int).map .int)) = decide (xs = []) := by
  cases xs with
  | nil => decide
  | cons x xs => simp [PyData.eqv, PyData.eqvAll]
def spIsGood (K : PySem.W.Frag) : Sp := fun vs H Q _ => ∃ (pl pg : Addr) (ps : List (Addr × List Int)) (st : Int) (gs : List Int), vs = [.ref pl, .int st, .ref pg] ∧ Lists K H pl ps pg gs ∧
  (∀ b H', Same H H' → (b = true ↔ okMac (ps.map (·.2)) st gs) → Q (.bl b) H')
theorem ok_l_is_good (T : Txt K mg a) : FnOk P w K mg base CX0 1 a.f_l_is_good a.d_l_is_good ["steps", "start", "good"] (spIsGood K) := by
  refine T.F_l_is_good.ok sc_l_is_good (fun vs H Q E h => ?_) (fun cdv A outer s H vs Q E hr h => ?_)
  · obtain ⟨pl, pg, ps, st, gs, rfl, _⟩ := h
    rfl
  · obtain ⟨pl, pg, ps, st, gs, rfl, L, q⟩ := h
    have zl : (sizeLine : Nat) = 16777216 := by decide
    have lr := refsI_len ps
    have l1 : ((ps.map (·.2))).length = ps.length := List.length_map _
    have qf : ∀ G, Same H G → ¬ okMac (ps.map (·.2)) st gs → Q (.bl false) G := fun G sG hn => q false G sG ⟨fun z => (nomatch z), fun z => absurd z hn⟩
    refine ⟨_, (pss_cons (ps_set (i := 3) sc_l_is_good.nd rfl (Or.inr rfl) (pe_callB (call_lenQK (K := K) rfl) (by rfl) T.z_len (by decide +kernel) (pa_cons (pv 0) pa_nil)))
      (pss_cons (ps_if (PW.pt (pw_or (pt_cmpR op_lt (pv 3) pe_int (nomark _)) (pw_or (pt_cmpR op_gt (pv 3) pe_int (nomark _)) (pw_or (pt_cmpR op_lt (pe_callB (call_lenQK (K := K) rfl) (by rfl) T.z_len (by decide +kernel) (pa_cons (pe_ix (ix_listK (K := K) rfl) (pv 0) pe_int (fun _ _ => rfl)) pa_nil)) pe_int (nomark _)) (pw_or1 (pt_cmpR op_gt (pe_callB (call_lenQK (K := K) rfl) (by rfl) T.z_len (by decide +kernel) (pa_cons (pe_ix (ix_listK (K := K) rfl) (pv 0) pe_int (fun _ _ => rfl)) pa_nil)) pe_int (nomark _))))))) (pss_one (ps_ret pe_bl)) pss_nil)
      (pss_cons (ps_for PassesOwn.never rfl (pi_listK (K := K) rfl (pv 0)) (pg_name (i := 4) sc_l_is_good.nd rfl (Or.inl rfl)) (pss_one (ps_if (PW.pt (pw_or (pt_cmpR op_ne (pe_callB (call_lenQK (K := K) rfl) (by rfl) T.z_len (by decide +kernel) (pa_cons (pv 4) pa_nil)) (pe_callB (call_lenQK (K := K) rfl) (by rfl) T.z_len (by decide +kernel) (pa_cons (pe_ix (ix_listK (K := K) rfl) (pv 0) pe_int (fun _ _ => rfl)) pa_nil)) (nomark _)) (pw_or1 (pt_cmpR (op_neDK (K := K) rfl hr.units) (pe_lc (own := [("target", 5)]) (g := gName 5) rfl sc_l_is_good.nd (pi_listK (K := K) rfl (pv 4)) (blkOk_by (N := N_l_is_good) (sc := (defScope s_l_is_good)) (by decide +kernel)) (fun _ _ _ _ _ => pg_name (i := 5) sc_l_is_good.nd rfl (by first | exact Or.inl rfl | exact Or.inr rfl)) (fun _ _ _ _ _ => (pts_one (PW.pt (pw_or (pt_cmpR op_lt (pv 5) pe_int (nomark _)) (pw_or1 (pt_cmpR op_ge (pv 5) (pv 3) (nomark _))))))) (fun _ _ _ _ _ => (pv 5))) (pe_lst pa_nil) (nomark _))))) (pss_one (ps_ret pe_bl)) pss_nil)))
      (pss_one (ps_ret (pe_cmpR (op_eqDK (K := K) rfl hr.units) (pe_lc (own := [("state", 6)]) (g := gName 6) rfl sc_l_is_good.nd (pi_listK (K := K) rfl (pe_op op_cat (pv 2) (pe_lst (pa_cons (pv 1) pa_nil)))) (blkOk_by (N := N_l_is_good) (sc := (defScope s_l_is_good)) (by decide +kernel)) (fun _ _ _ _ _ => pg_name (i := 6) sc_l_is_good.nd rfl (by first | exact Or.inl rfl | exact Or.inr rfl)) (fun _ _ _ _ _ => (pts_one (PW.pt (pw_or (pt_cmpR op_lt (pv 6) pe_int (nomark _)) (pw_or1 (pt_cmpR op_ge (pv 6) (pv 3) (nomark _))))))) (fun _ _ _ _ _ => (pv 6))) (pe_lst pa_nil) (nomark _))))))), ?_⟩
    walk_at "rd"
    refine r_lenL L.s ?_
    walk_at "rd"
    rw [lr]
    refine r_iteD (fun h1 => ?_) (fun h1 => ?_)
    · walk_at "rd"
      exact qf _ (fun _ _ z => z) fun hk => by have := hk.1.1.1; omega
    walk_at "rd"
    refine r_iteD (fun h2 => ?_) (fun h2 => ?_)
    · walk_at "rd"
      exact qf _ (fun _ _ z => z) fun hk => by have := hk.1.1.2; omega
    obtain ⟨p0, hp0⟩ : ∃ p0, ps[0]? = some p0 := ⟨_, List.getElem?_eq_getElem (by omega)⟩
    obtain ⟨r0, b0, _⟩ := L.r p0 (List.mem_of_getElem? hp0)
    have e0 : ((ps.map (·.2)).getD 0 []) = p0.2 := by
      rw [List.getD_eq_getElem?_getD, List.getElem?_map, hp0]
      rfl
    walk_at "rd"
    refine r_ixL L.s (at_refsI (i := 0) rfl hp0) ?_
    walk_at "rd"
    refine r_lenL r0 ?_
    rw [List.length_map]
    walk_at "rd"
    refine r_iteD (fun h3 => ?_) (fun h3 => ?_)
    · walk_at "rd"
      exact qf _ (fun _ _ z => z) fun hk => by have := hk.1.2.1.1; rw [e0] at this; omega
    walk_at "rd"
    refine r_ixL L.s (at_refsI (i := 0) rfl hp0) ?_
    walk_at "rd"
    refine r_lenL r0 ?_
    rw [List.length_map]
    walk_at "rd"
    refine r_iteD (fun h4 => ?_) (fun h4 => ?_)
    · walk_at "rd"
      exact qf _ (fun _ _ z => z) fun hk => by have := hk.1.2.1.2; rw [e0] at this; omega
    walk_at "rd"
    refine ⟨⟨_, L.s⟩, ?_⟩
    refine for_list (xs := refsI ps) (fun i σ G => (∃ y4 y5 y6, σ = [some (.ref pl), some (.int st), some (.ref pg), some (.int (ps.length : Int)), y4, y5, y6]) ∧ Same H G ∧ ∀ p ∈ ps.take i, p.2.length = p0.2.length ∧ okSt ps.length p.2)
      ⟨⟨none, none, none, rfl⟩, fun _ _ z => z, fun p hp => nomatch hp⟩ (fun i σ G _ hP => hP.2.1.seq L.s) (fun i x σ G hx hP => ?_) (fun σ G hP => ?_)
    · obtain ⟨⟨y4, y5, y6, rfl⟩, sG, hall⟩ := hP
      obtain ⟨p, hp, rfl⟩ := refsI_at hx
      have hpm := List.mem_of_getElem? hp
      obtain ⟨r1, b1, c1⟩ := L.r p hpm
      walk_at "rd"
      refine r_lenL (sG.seq r1) ?_
      walk_at "rd"
      refine r_ixL (sG.seq L.s) (at_refsI (i := 0) rfl hp0) ?_
      walk_at "rd"
      refine r_lenL (sG.seq r0) ?_
      walk_at "rd"
      rw [List.length_map, List.length_map]
      refine r_iteN (fun h5 => ?_) (fun h5 => ?_)
      · walk_at "rd"
        exact qf _ sG fun hk => h5 (by have := hk.1.2.2 p.2 (List.mem_map_of_mem hpm); rw [e0] at this; rw [this])
      walk_at "rd"
      refine ⟨⟨_, sG.seq r1⟩, fun D hD => ?_⟩
      refine lc_list (xs := p.2.map V.int) (fun j G3 => Same G G3 ∧ G3 D = some (.lst (((p.2.take j).filter (badI ps.length)).map V.int))) ⟨same_new hD, upd_same⟩ (fun j G3 _ hP => hP.1.seq (sG.seq r1)) (fun j x G3 hx hP => ?_) (fun G3 hP => ?_)
      · obtain ⟨sG3, hG3⟩ := hP
        obtain ⟨z, hz, rfl⟩ := ints_at hx
        refine ⟨rfl, ?_⟩
        walk_at "rd"
        have tk : (p.2.take (j + 1)).filter (badI ps.length) = (p.2.take j).filter (badI ps.length) ++ [z].filter (badI ps.length) := by
          rw [List.take_add_one, hz, List.filter_append]
          rfl
        have fl : ((p.2.take j).filter (badI ps.length)).length ≤ 1000 := Nat.le_trans (List.length_filter_le _ _) (Nat.le_trans (by rw [List.length_take]; exact Nat.min_le_right _ _) b1)
        have hit : badI ps.length z = true → ∃ acc, G3 D = some (.lst acc) ∧ acc.length < sizeLine ∧ (Same G (upd G3 D (.lst (acc ++ [V.int z]))) ∧ (upd G3 D (.lst (acc ++ [V.int z]))) D = some (.lst (((p.2.take (j + 1)).filter (badI ps.length)).map V.int))) := fun hb => by
          refine ⟨_, hG3, by rw [List.length_map]; omega, same_mut sG3 hD, ?_⟩
          rw [upd_same, tk, List.filter_cons_of_pos hb, List.map_append]
          rfl
        refine r_iteD (fun h6 => ?_) (fun h6 => ?_)
        · walk_at "rd"
          exact hit (by unfold badI; rw [decide_eq_true h6]; rfl)
        walk_at "rd"
        refine r_iteD (fun h7 => ?_) (fun h7 => ?_)
        · walk_at "rd"
          exact hit (by unfold badI; rw [decide_eq_true h7]; simp)
        · refine ⟨sG3, ?_⟩
          rw [tk, List.filter_cons_of_neg (by unfold badI; rw [decide_eq_false h6, decide_eq_false h7]; decide), List.filter_nil, List.append_nil]
          exact hG3
      · obtain ⟨sG3, hG3⟩ := hP
        rw [List.length_map, List.take_length] at hG3
        walk_at "rd"
        refine ⟨Nat.zero_le _, fun p2 hp2 => ?_⟩
        have s4 := sG.trans (sG3.trans (same_new (o := .lst []) hp2))
        refine r_neD (dp_ints (SqL.of ((same_new hp2) _ _ hG3))) (dp_ints (A := []) (SqL.of upd_same)) (shaped_ints _) (shaped_ints _) ?_
        rw [eqv_nilI]
        walk_at "rd"
        refine r_iteN (fun h6 => ?_) (fun h6 => ?_)
        · walk_at "rd"
          exact qf _ s4 fun hk => h6 (bad_nil.mpr (by have := hk.2.1 p.2 (List.mem_map_of_mem hpm); rw [l1] at this; exact this))
        · walk_at "rd"
          refine ⟨⟨_, _, _, rfl⟩, s4, fun p' hp' => ?_⟩
          rw [List.take_add_one, hp] at hp'
          rcases List.mem_append.mp hp' with hp' | hp'
          · exact hall p' hp'
          · rw [List.mem_singleton.mp hp']
            exact ⟨by omega, bad_nil.mp h6⟩
    · obtain ⟨⟨y4, y5, y6, rfl⟩, sG, hall⟩ := hP
      rw [lr, List.take_length] at hall
      walk_at "rd"
      refine ⟨ln1, fun p1 hp1 => ?_⟩
      have s1 := same_new (o := .lst [V.int st]) hp1
      refine r_cat (zs := [V.int st]) (s1 _ _ (sG _ _ L.g)) upd_same (by rw [List.length_map]; have := L.l; show gs.length + 1 ≤ _; omega) (fun pc hpc => ?_)
      rw [show gs.map V.int ++ [V.int st] = (gs ++ [st]).map V.int by rw [List.map_append]; rfl]
      have s2 := sG.trans (s1.trans (same_new (o := .lst ((gs ++ [st]).map V.int)) hpc))
      have hC : (upd (upd G p1 (.lst [V.int st])) pc (.lst ((gs ++ [st]).map V.int))) pc = some (.lst ((gs ++ [st]).map V.int)) := upd_same
      generalize upd (upd G p1 (.lst [V.int st])) pc (.lst ((gs ++ [st]).map V.int)) = G2 at *
      clear hp1 hpc s1
      walk_at "rd"
      refine ⟨⟨_, SqL.of hC⟩, fun D hD => ?_⟩
      have lC : (gs ++ [st]).length ≤ 61 := by rw [List.length_append]; have := L.l; show gs.length + 1 ≤ _; omega
      refine lc_list (xs := (gs ++ [st]).map V.int) (fun j G3 => Same G2 G3 ∧ G3 D = some (.lst ((((gs ++ [st]).take j).filter (badI ps.length)).map V.int))) ⟨same_new hD, upd_same⟩ (fun j G3 _ hP => SqL.of (hP.1 _ _ hC)) (fun j x G3 hx hP => ?_) (fun G3 hP => ?_)
      · obtain ⟨sG3, hG3⟩ := hP
        obtain ⟨z, hz, rfl⟩ := ints_at hx
        refine ⟨rfl, ?_⟩
        walk_at "rd"
        have tk : ((gs ++ [st]).take (j + 1)).filter (badI ps.length) = ((gs ++ [st]).take j).filter (badI ps.length) ++ [z].filter (badI ps.length) := by
          rw [List.take_add_one, hz, List.filter_append]
          rfl
        have fl : (((gs ++ [st]).take j).filter (badI ps.length)).length ≤ 1000 := Nat.le_trans (List.length_filter_le _ _) (Nat.le_trans (by rw [List.length_take]; exact Nat.min_le_right _ _) (Nat.le_trans lC (by decide)))
        have hit : badI ps.length z = true → ∃ acc, G3 D = some (.lst acc) ∧ acc.length < sizeLine ∧ (Same G2 (upd G3 D (.lst (acc ++ [V.int z]))) ∧ (upd G3 D (.lst (acc ++ [V.int z]))) D = some (.lst ((((gs ++ [st]).take (j + 1)).filter (badI ps.length)).map V.int))) := fun hb => by
          refine ⟨_, hG3, by rw [List.length_map]; omega, same_mut sG3 hD, ?_⟩
          rw [upd_same, tk, List.filter_cons_of_pos hb, List.map_append]
          rfl
        refine r_iteD (fun h6 => ?_) (fun h6 => ?_)
        · walk_at "rd"
          exact hit (by unfold badI; rw [decide_eq_true h6]; rfl)
        walk_at "rd"
        refine r_iteD (fun h7 => ?_) (fun h7 => ?_)
        · walk_at "rd"
          exact hit (by unfold badI; rw [decide_eq_true h7]; simp)
        · refine ⟨sG3, ?_⟩
          rw [tk, List.filter_cons_of_neg (by unfold badI; rw [decide_eq_false h6, decide_eq_false h7]; decide), List.filter_nil, List.append_nil]
          exact hG3
      · obtain ⟨sG3, hG3⟩ := hP
        rw [List.length_map, List.take_length] at hG3
        walk_at "rd"
        refine ⟨Nat.zero_le _, fun p2 hp2 => ?_⟩
        have s4 := s2.trans (sG3.trans (same_new (o := .lst []) hp2))
        refine r_eqD (dp_ints (SqL.of ((same_new hp2) _ _ hG3))) (dp_ints (A := []) (SqL.of upd_same)) (shaped_ints _) (shaped_ints _) ?_
        rw [eqv_nilI]
        refine q _ _ s4 ?_
        rw [decide_eq_true_eq, bad_nil]
        have ap : okSt ps.length (gs ++ [st]) ↔ (0 ≤ st ∧ st < (ps.length : Int)) ∧ okSt ps.length gs := by
          constructor
          · exact fun h => ⟨h st (List.mem_append_right _ (List.mem_singleton.mpr rfl)), fun x hx => h x (List.mem_append_left _ hx)⟩
          · rintro ⟨h1, h2⟩ x hx
            rcases List.mem_append.mp hx with hx | hx
            · exact h2 x hx
            · rw [List.mem_singleton.mp hx]; exact h1
        rw [ap]
        constructor
        · rintro ⟨c1, c2⟩
          refine ⟨⟨by rw [l1]; omega, by rw [e0]; omega, fun r hr => ?_⟩, fun r hr => ?_, by rw [l1]; exact c1, by rw [l1]; exact c2⟩
          · obtain ⟨p, hp, rfl⟩ := List.mem_map.mp hr
            rw [e0]
            exact (hall p hp).1
          · obtain ⟨p, hp, rfl⟩ := List.mem_map.mp hr
            rw [l1]
            exact (hall p hp).2
        · rintro ⟨_, _, c1, c2⟩
          rw [l1] at c1 c2
          exact ⟨c1, c2⟩
end

section
variable {P : Program} {w : World} {K : PySem.W.Frag} {mg : Str → Option Value} {base : Heap} {a : Ad}
def spRefused (K : PySem.W.Frag) : Sp := fun vs H Q _ => ∃ (pl pg : Addr) (ps : List (Addr × List Int)) (st : Int) (gs : List Int), vs = [.ref pl, .int st, .ref pg] ∧ Lists K H pl ps pg gs ∧ st.natAbs < 1000000 ∧ ¬ okMac (ps.map (·.2)) st gs ∧
  (∀ H', Same H H' → Q (.bl true) H')
theorem ok_l_refused (T : Txt K mg a) : FnOk P w K mg base CX0 3 a.f_l_refused a.d_l_refused ["steps", "start", "good"] (spRefused K) := by
  have G_make_machine := ok_make_machine (P := P) (w := w) (base := base) T
  refine T.F_l_refused.ok sc_l_refused (fun vs H Q E h => ?_) (fun cdv A outer s H vs Q E hr h => ?_)
  · obtain ⟨pl, pg, ps, st, gs, rfl, _⟩ := h
    rfl
  · obtain ⟨pl, pg, ps, st, gs, rfl, L, bst, hn, q⟩ := h
    refine ⟨_, (pss_cons (ps_tryAs (i := 3) rfl rfl sc_l_refused.nd rfl rfl ⟨by rfl, by decide, .inl T.gk_InvalidMachine⟩ takes0 (fun W pn xe tk _ => (pss_one (ps_expr (pe_callS (G_make_machine) (hr.mono (by first | decide | omega)) (by rfl) T.g_make_machine T.F_make_machine.kp T.b_make_machine (fun σ => passAt tk σ) (pa_cons (pv 0) (pa_cons (pv 1) (pa_cons (pv 2) pa_nil))))))) (fun a' oe cls d pn hz hf => (pss_one (ps_ret (pe_and (pe_callB (call_isEx hz hf) (by rfl) T.z_isinstance (by decide +kernel) (pa_cons (pv 3) (pa_cons (pe_glob (v := V.ref a.k_MachineError) (by rfl) T.gk_MachineError rfl) pa_nil))) (pe_and (pe_callB (call_isEx hz hf) (by rfl) T.z_isinstance (by decide +kernel) (pa_cons (pv 3) (pa_cons (pe_bltn (by rfl) T.z_ValueError (v := V.ty "ValueError") (u := Value.type "ValueError") (by decide +kernel) rfl) pa_nil))) (pe_one (pe_not (pe_callB (call_isEx hz hf) (by rfl) T.z_isinstance (by decide +kernel) (pa_cons (pv 3) (pa_cons (pe_glob (v := V.ref a.k_InvalidEdit) (by rfl) T.gk_InvalidEdit rfl) pa_nil)))))))))))
      (pss_one (ps_ret pe_bl))), ?_⟩
    walk_at "rd"
    refine r_tryAs ?_
    walk_at "rd"
    refine r_callS ?_
    walk_at "rd"
    refine ⟨pl, pg, ps, st, gs, rfl, L, bst, fun hk => absurd hk hn, fun _ H1 s1 => ⟨true, T.em_InvalidMachine_InvalidMachine, fun _ ae hae => ?_, fun z => nomatch z⟩⟩
    walk_at "rd"
    refine r_isEx T.x_InvalidMachine.e (fun u r => r) T.ki_InvalidMachine_MachineError ?_
    walk_at "rd"
    refine r_isEx T.x_InvalidMachine.e (fun u r => r) T.ki_InvalidMachine_ValueError ?_
    walk_at "rd"
    refine r_isEx T.x_InvalidMachine.e (fun u r => r) T.ki_InvalidMachine_InvalidEdit ?_
    walk_at "rd"
    exact q _ s1
end

/-- the lists of a script: which integers, how many -/
structure Bds (e : Nat) (ps : List (Addr × List Int)) (gs : List Int) : Prop where
  n : ps.length ≤ 42
  r : ∀ p ∈ ps, p.2.length ≤ 5 + e ∧ ∀ x ∈ p.2, x.natAbs < 1000
  l : gs.length ≤ 9 + e
  b : ∀ x ∈ gs, x.natAbs < 1000
/-- they lie in the heap, apart from one another -/
structure Made (H : Hp) (pl : Addr) (ps : List (Addr × List Int)) (pg : Addr) (gs : List Int) : Prop where
  hl : H pl = some (.lst (refsI ps))
  hr : ∀ p ∈ ps, H p.1 = some (.lst (p.2.map V.int))
  hg : H pg = some (.lst (gs.map V.int))
  nd : (ps.map (·.1)).Nodup
  nl : pl ∉ ps.map (·.1)
  ng : pg ∉ ps.map (·.1)
  ne : pl ≠ pg
theorem at4 {a b c d i lo hi : Int} (h0 : 0 ≤ i) (h4 : i < 4) (ha : lo ≤ a ∧ a ≤ hi) (hb : lo ≤ b ∧ b ≤ hi) (hc : lo ≤ c ∧ c ≤ hi) (hd : lo ≤ d ∧ d ≤ hi) : ∃ z, atI [V.int a, V.int b, V.int c, V.int d] i = some (.int z) ∧ lo ≤ z ∧ z ≤ hi := by
  obtain rfl | rfl | rfl | rfl : i = 0 ∨ i = 1 ∨ i = 2 ∨ i = 3 := by omega
  · exact ⟨a, at_of (j := 0) rfl rfl, ha⟩
  · exact ⟨b, at_of (j := 1) rfl rfl, hb⟩
  · exact ⟨c, at_of (j := 2) rfl rfl, hc⟩
  · exact ⟨d, at_of (j := 3) rfl rfl, hd⟩
theorem at3 {a b c i lo hi : Int} (h0 : 0 ≤ i) (h4 : i < 3) (ha : lo ≤ a ∧ a ≤ hi) (hb : lo ≤ b ∧ b ≤ hi) (hc : lo ≤ c ∧ c ≤ hi) : ∃ z, atI [V.int a, V.int b, V.int c] i = some (.int z) ∧ lo ≤ z ∧ z ≤ hi := by
  obtain rfl | rfl | rfl : i = 0 ∨ i = 1 ∨ i = 2 := by omega
  · exact ⟨a, at_of (j := 0) rfl rfl, ha⟩
  · exact ⟨b, at_of (j := 1) rfl rfl, hb⟩
  · exact ⟨c, at_of (j := 2) rfl rfl, hc⟩
section
variable {P : Program} {w : World} {K : PySem.W.Frag} {mg : Str → Option Value} {base : Heap} {a : Ad}
def spDrawn (K : PySem.W.Frag) : Sp := fun vs H Q _ => ∃ (l : Addr) (sc : List Int), vs = [.ref l] ∧ SqL K H l (sc.map V.int) ∧
  ∀ (H' : Hp) (t pl pg : Addr) (ps : List (Addr × List Int)) (st : Int) (gs : List Int), Same H H' → H' t = some (.tup [.ref pl, .int st, .ref pg]) → Made H' pl ps pg gs → Bds 0 ps gs → st.natAbs < 1000 → (∀ b ∈ ps.map (·.1), H b = none) → H pl = none → H pg = none → Q (.ref t) H'
theorem ok_l_drawn (T : Txt K mg a) : FnOk P w K mg base CX0 2 a.f_l_drawn a.d_l_drawn ["script"] (spDrawn K) := by
  have G_l_cell := ok_l_cell (P := P) (w := w) (base := base) T
  have G_l_numbers := ok_l_numbers (P := P) (w := w) (base := base) T
  refine T.F_l_drawn.ok sc_l_drawn (fun vs H Q E h => ?_) (fun cdv A outer s H vs Q E hr h => ?_)
  · obtain ⟨l, sc, rfl, _⟩ := h
    rfl
  · obtain ⟨l, sc, rfl, hS, q⟩ := h
    have zl : (sizeLine : Nat) = 16777216 := by decide
    refine ⟨_, (pss_cons (ps_set (i := 1) sc_l_drawn.nd rfl (Or.inl rfl) (pe_call (G_l_numbers) (hr.mono (by first | decide | omega)) (by rfl) T.g_l_numbers T.F_l_numbers.kp T.b_l_numbers .nil pass0 (pa_cons (pe_call (G_l_cell) (hr.mono (by first | decide | omega)) (by rfl) T.g_l_cell T.F_l_cell.kp T.b_l_cell .nil pass0 (pa_cons (pv 0) (pa_cons pe_int pa_nil))) (pa_cons pe_int pa_nil))))
      (pss_cons (ps_set (i := 2) sc_l_drawn.nd rfl (Or.inr rfl) (pe_ix (ix_listK (K := K) rfl) (pe_lst (pa_cons (pe_op op_add pe_int (pe_op op_mod (pe_ix (ix_listK (K := K) rfl) (pv 1) pe_int (fun _ _ => rfl)) pe_int)) (pa_cons (pe_op op_add pe_int (pe_op op_mod (pe_ix (ix_listK (K := K) rfl) (pv 1) pe_int (fun _ _ => rfl)) pe_int)) (pa_cons (pe_op op_add pe_int (pe_op op_mod (pe_ix (ix_listK (K := K) rfl) (pv 1) pe_int (fun _ _ => rfl)) pe_int)) (pa_cons (pe_op op_add pe_int (pe_op op_mod (pe_ix (ix_listK (K := K) rfl) (pv 1) pe_int (fun _ _ => rfl)) pe_int)) pa_nil))))) (pe_op op_mod (pe_ix (ix_listK (K := K) rfl) (pv 1) pe_int (fun _ _ => rfl)) pe_int) (fun _ _ => rfl)))
      (pss_cons (ps_set (i := 3) sc_l_drawn.nd rfl (Or.inl rfl) (pe_ix (ix_listK (K := K) rfl) (pe_lst (pa_cons (pe_op op_add pe_int (pe_op op_mod (pe_ix (ix_listK (K := K) rfl) (pv 1) pe_int (fun _ _ => rfl)) pe_int)) (pa_cons (pe_op op_add pe_int (pe_op op_mod (pe_ix (ix_listK (K := K) rfl) (pv 1) pe_int (fun _ _ => rfl)) pe_int)) (pa_cons (pe_op op_mod (pe_ix (ix_listK (K := K) rfl) (pv 1) pe_int (fun _ _ => rfl)) pe_int) pa_nil)))) (pe_op op_mod (pe_ix (ix_listK (K := K) rfl) (pv 1) pe_int (fun _ _ => rfl)) pe_int) (fun _ _ => rfl)))
      (pss_cons (ps_if (pt_cmpR op_eq (pe_op op_mod (pe_ix (ix_listK (K := K) rfl) (pv 1) pe_int (fun _ _ => rfl)) pe_int) pe_int (nomark _)) (pss_one (ps_set (i := 2) sc_l_drawn.nd rfl (Or.inr rfl) pe_int)) pss_nil)
      (pss_cons (ps_set (i := 4) sc_l_drawn.nd rfl (Or.inl rfl) (pe_lst pa_nil))
      (pss_cons (ps_for PassesOwn.never rfl (pi_range1 (by rfl) T.z_range (pa_cons (pv 2) pa_nil)) (pg_name (i := 5) sc_l_drawn.nd rfl (Or.inl rfl)) (pss_cons (ps_set (i := 6) sc_l_drawn.nd rfl (Or.inr rfl) (pe_call (G_l_numbers) (hr.mono (by first | decide | omega)) (by rfl) T.g_l_numbers T.F_l_numbers.kp T.b_l_numbers .nil pass0 (pa_cons (pe_op op_add (pe_call (G_l_cell) (hr.mono (by first | decide | omega)) (by rfl) T.g_l_cell T.F_l_cell.kp T.b_l_cell .nil pass0 (pa_cons (pv 0) (pa_cons (pe_op op_add pe_int (pe_op op_mod (pv 5) pe_int)) pa_nil))) (pv 5)) (pa_cons pe_int pa_nil))))
      (pss_one (ps_expr (bmK (K := K) rfl (pe_bm PySem.F.plainAttrs_list PySem.F.slot_list_append PySem.F.type_list_append mt_append (pv 4) (pa_cons (pe_lc (own := [("k", 8)]) (g := gName 8) (tt := tYes) rfl sc_l_drawn.nd (pi_range1 (by rfl) T.z_range (pa_cons (pv 3) pa_nil)) (blkOk_by (N := N_l_drawn) (sc := (defScope s_l_drawn)) (by decide +kernel)) (fun _ _ _ _ _ => pg_name (i := 8) sc_l_drawn.nd rfl (by first | exact Or.inl rfl | exact Or.inr rfl)) (fun _ _ _ _ _ => pts_nil) (fun _ _ _ _ _ => (pe_op op_mod (pe_ix (ix_listK (K := K) rfl) (pv 6) (pv 8) (fun _ _ => rfl)) (pv 2)))) pa_nil)))))))
      (pss_cons (ps_setLc (i := 7) (own := [("number", 9)]) (g := gName 9) (tt := tYes) rfl sc_l_drawn.nd rfl rfl (sw_true rfl rfl rfl (by decide +kernel)) (pi_listK (K := K) rfl (pe_slice (sl_listK (K := K) rfl) (pe_call (G_l_numbers) (hr.mono (by first | decide | omega)) (by rfl) T.g_l_numbers T.F_l_numbers.kp T.b_l_numbers .nil pass0 (pa_cons (pe_call (G_l_cell) (hr.mono (by first | decide | omega)) (by rfl) T.g_l_cell T.F_l_cell.kp T.b_l_cell .nil pass0 (pa_cons (pv 0) (pa_cons pe_int pa_nil))) (pa_cons pe_int pa_nil))) po_none (po_some (pe_op op_mod (pe_ix (ix_listK (K := K) rfl) (pv 1) pe_int (fun _ _ => rfl)) pe_int)))) (blkOk_by (N := N_l_drawn) (sc := (defScope s_l_drawn)) (by decide +kernel)) (fun _ _ _ _ _ => pg_name (i := 9) sc_l_drawn.nd rfl (by first | exact Or.inl rfl | exact Or.inr rfl)) (fun _ _ _ _ _ => pts_nil) (fun _ _ _ _ _ => (pe_op op_mod (pv 9) (pe_callB (call_max2 rfl) (by rfl) T.z_max (by decide +kernel) (pa_cons (pv 2) (pa_cons pe_int pa_nil))))))
      (pss_one (ps_ret (pe_tup (pa_cons (pv 4) (pa_cons (pe_op op_mod (pe_ix (ix_listK (K := K) rfl) (pv 1) pe_int (fun _ _ => rfl)) (pe_callB (call_max2 rfl) (by rfl) T.z_max (by decide +kernel) (pa_cons (pv 2) (pa_cons pe_int pa_nil)))) (pa_cons (pv 7) pa_nil))))))))))))), ?_⟩
    walk_at "rd"
    refine ⟨l, sc, 0, rfl, hS, by decide, ?_⟩
    walk_at "rd"
    refine ⟨_, 10, rfl, by omega, fun H1 pn ns s1 hpn hN hlen hz => ?_⟩
    have nz : ∀ j, j < 10 → 0 ≤ ns.getD j 0 ∧ ns.getD j 0 < 1000 := fun j hj => by
      rw [List.getD_eq_getElem?_getD, List.getElem?_eq_getElem (by omega)]
      exact hz _ (List.getElem_mem _)
    walk_at "rd"
    refine r_ixL (SqL.of hN) (at_int (by decide) (by omega)) ?_
    walk_at "rd"
    refine r_ixL (SqL.of hN) (at_int (by decide) (by omega)) ?_
    walk_at "rd"
    refine r_ixL (SqL.of hN) (at_int (by decide) (by omega)) ?_
    walk_at "rd"
    refine r_ixL (SqL.of hN) (at_int (by decide) (by omega)) ?_
    walk_at "rd"
    refine ⟨by show 4 ≤ _; omega, fun p4 hp4 => ?_⟩
    walk_at "rd"
    refine r_ixL (SqL.of ((same_new hp4) _ _ hN)) (at_int (by decide) (by omega)) ?_
    walk_at "rd"
    obtain ⟨c0, ec0, c1, c42⟩ : ∃ z, atI [V.int (1 + ns.getD (0 : Int).toNat 0 % 8), V.int (1 + ns.getD (0 : Int).toNat 0 % 8), V.int (1 + ns.getD (0 : Int).toNat 0 % 3), V.int (38 + ns.getD (0 : Int).toNat 0 % 5)] (ns.getD (1 : Int).toNat 0 % 4) = some (.int z) ∧ 1 ≤ z ∧ z ≤ 42 := by
      have e1 := emod_rng (ns.getD (0 : Int).toNat 0) (b := 8) (by decide)
      have e2 := emod_rng (ns.getD (0 : Int).toNat 0) (b := 3) (by decide)
      have e3 := emod_rng (ns.getD (0 : Int).toNat 0) (b := 5) (by decide)
      have e4 := emod_rng (ns.getD (1 : Int).toNat 0) (b := 4) (by decide)
      exact at4 e4.1 e4.2 ⟨by omega, by omega⟩ ⟨by omega, by omega⟩ ⟨by omega, by omega⟩ ⟨by omega, by omega⟩
    refine r_ixL (SqL.of upd_same) ec0 ?_
    have s2 := s1.trans (same_new (o := .lst [V.int (1 + ns.getD (0 : Int).toNat 0 % 8), V.int (1 + ns.getD (0 : Int).toNat 0 % 8), V.int (1 + ns.getD (0 : Int).toNat 0 % 3), V.int (38 + ns.getD (0 : Int).toNat 0 % 5)]) hp4)
    have hN2 := (same_new (o := .lst [V.int (1 + ns.getD (0 : Int).toNat 0 % 8), V.int (1 + ns.getD (0 : Int).toNat 0 % 8), V.int (1 + ns.getD (0 : Int).toNat 0 % 3), V.int (38 + ns.getD (0 : Int).toNat 0 % 5)]) hp4) _ _ hN
    clear hN hp4 s1 hpn ec0
    generalize upd H1 p4 (.lst [V.int (1 + ns.getD (0 : Int).toNat 0 % 8), V.int (1 + ns.getD (0 : Int).toNat 0 % 8), V.int (1 + ns.getD (0 : Int).toNat 0 % 3), V.int (38 + ns.getD (0 : Int).toNat 0 % 5)]) = H2 at *
    walk_at "rd"
    refine r_ixL (SqL.of hN2) (at_int (by decide) (by omega)) ?_
    walk_at "rd"
    refine r_ixL (SqL.of hN2) (at_int (by decide) (by omega)) ?_
    walk_at "rd"
    refine r_ixL (SqL.of hN2) (at_int (by decide) (by omega)) ?_
    walk_at "rd"
    refine ⟨by show 3 ≤ _; omega, fun p3 hp3 => ?_⟩
    walk_at "rd"
    refine r_ixL (SqL.of ((same_new hp3) _ _ hN2)) (at_int (by decide) (by omega)) ?_
    walk_at "rd"
    obtain ⟨m0, em0, m1, m5⟩ : ∃ z, atI [V.int (1 + ns.getD (2 : Int).toNat 0 % 4), V.int (1 + ns.getD (2 : Int).toNat 0 % 4), V.int (ns.getD (2 : Int).toNat 0 % 6)] (ns.getD (3 : Int).toNat 0 % 3) = some (.int z) ∧ 0 ≤ z ∧ z ≤ 5 := by
      have e1 := emod_rng (ns.getD (2 : Int).toNat 0) (b := 4) (by decide)
      have e2 := emod_rng (ns.getD (2 : Int).toNat 0) (b := 6) (by decide)
      have e4 := emod_rng (ns.getD (3 : Int).toNat 0) (b := 3) (by decide)
      exact at3 e4.1 e4.2 ⟨by omega, by omega⟩ ⟨by omega, by omega⟩ ⟨by omega, by omega⟩
    refine r_ixL (SqL.of upd_same) em0 ?_
    have s3 := s2.trans (same_new (o := .lst [V.int (1 + ns.getD (2 : Int).toNat 0 % 4), V.int (1 + ns.getD (2 : Int).toNat 0 % 4), V.int (ns.getD (2 : Int).toNat 0 % 6)]) hp3)
    have hN3 := (same_new (o := .lst [V.int (1 + ns.getD (2 : Int).toNat 0 % 4), V.int (1 + ns.getD (2 : Int).toNat 0 % 4), V.int (ns.getD (2 : Int).toNat 0 % 6)]) hp3) _ _ hN2
    clear hN2 hp3 s2 em0
    generalize upd H2 p3 (.lst [V.int (1 + ns.getD (2 : Int).toNat 0 % 4), V.int (1 + ns.getD (2 : Int).toNat 0 % 4), V.int (ns.getD (2 : Int).toNat 0 % 6)]) = H3 at *
    obtain ⟨m, rfl, hm5⟩ : ∃ m : Nat, m0 = (m : Int) ∧ m ≤ 5 := ⟨m0.toNat, by omega, by omega⟩
    obtain ⟨c, rfl, hc42⟩ : ∃ c : Nat, c0 = (c : Int) ∧ c ≤ 42 := ⟨c0.toNat, by omega, by omega⟩
    with_reducible refine r_cutJ (fun σ G => ∃ n : Nat, σ = [some (.ref l), some (.ref pn), some (iV n), some (V.int (m : Int)), none, none, none, none, none, none] ∧ n ≤ 42 ∧ G = H3) (fun σ G hJ => ?_) (fun key => ?_)
    rotate_left
    · walk_at "rd"
      refine r_ixL (SqL.of hN3) (at_int (by decide) (by omega)) ?_
      walk_at "rd"
      refine r_iteD (fun _ => ?_) (fun _ => ?_)
      · refine r_set (r_c ?_)
        exact key _ _ ⟨0, rfl, by decide, rfl⟩
      · refine r_next ?_
        exact key _ _ ⟨c, rfl, hc42, rfl⟩
    obtain ⟨n, rfl, hn42, eG⟩ := hJ
    have eG := eG.symm
    subst eG
    clear c1 c42
    walk_at "rd"
    refine ⟨Nat.zero_le _, fun pl hpl => ?_⟩
    walk_at "rd"
    refine r_rng1' (by omega) (by omega) ?_
    rw [Int.toNat_natCast]
    refine for_range (lo := 0) (n := n) (fun i σ G => ∃ ps y5 y6, σ = [some (.ref l), some (.ref pn), some (iV n), some (V.int (m : Int)), some (.ref pl), y5, y6, none, none, none] ∧ Same H3 G ∧ G pl = some (.lst (refsI ps)) ∧ ps.length = i ∧ (∀ p ∈ ps, G p.1 = some (.lst (p.2.map V.int)) ∧ H3 p.1 = none ∧ p.2.length ≤ 5 ∧ ∀ x ∈ p.2, x.natAbs < 1000) ∧ (ps.map (·.1)).Nodup ∧ pl ∉ ps.map (·.1))
      ⟨[], none, none, rfl, same_new hpl, upd_same, rfl, fun p hp => (nomatch hp), List.nodup_nil, fun h => (nomatch h)⟩ (fun i σ G hi hP => ?_) (fun σ G hP => ?_)
    · obtain ⟨ps, y5, y6, rfl, sG, hG, hl, hps, nd, nl⟩ := hP
      walk_at "rd"
      refine ⟨l, sc, _, rfl, (s3.trans sG).seq hS, by omega, ?_⟩
      walk_at "rd"
      refine ⟨_, 6, rfl, by omega, fun H4 pd ds s4 hpd hD hdl hdz => ?_⟩
      have sG4 := sG.trans s4
      have hG4 := s4 _ _ hG
      have hps4 : ∀ p ∈ ps, H4 p.1 = some (.lst (p.2.map V.int)) ∧ H3 p.1 = none ∧ p.2.length ≤ 5 ∧ ∀ x ∈ p.2, x.natAbs < 1000 := fun p hp => ⟨s4 _ _ (hps p hp).1, (hps p hp).2⟩
      clear hG hps s4 sG hpd
      walk_at "rd"
      refine ⟨ty_l (SqL.of hG4), ?_⟩
      walk_at "rd"
      refine r_rng1' (by omega) (by omega) ?_
      rw [Int.toNat_natCast]
      intro D hDn
      refine lc_range (lo := 0) (n := m) (fun j G3 => Same H4 G3 ∧ ∃ ms : List Int, G3 D = some (.lst (ms.map V.int)) ∧ ms.length = j ∧ ∀ x ∈ ms, x.natAbs < 1000) ⟨same_new hDn, [], upd_same, rfl, fun x hx => (nomatch hx)⟩ (fun j G3 hj hP => ?_) (fun G3 hP => ?_)
      · obtain ⟨sG3, ms, hG3, hml, hmb⟩ := hP
        refine ⟨rfl, r_yes (iteT ?_)⟩
        walk_at "rd"
        refine r_ixL (SqL.of (sG3 _ _ hD)) (at_int (by omega) (by omega)) ?_
        walk_at "rd"
        refine r_mod (j := (n : Int)) (by omega) ?_
        have e1 := emod_rng (ds.getD (0 + (j : Int)).toNat 0) (b := (n : Int)) (by omega)
        refine ⟨_, hG3, by rw [List.length_map]; omega, same_mut sG3 hDn, ms ++ [_], by rw [upd_same, List.map_append]; rfl, by rw [List.length_append, hml]; rfl, fun x hx => ?_⟩
        rcases List.mem_append.mp hx with hx | hx
        · exact hmb x hx
        · rw [List.mem_singleton.mp hx]; omega
      · obtain ⟨sG3, ms, hG3, hml, hmb⟩ := hP
        walk_at "rd"
        have lr := refsI_len ps
        refine r_append (sG3 _ _ hG4) (by rw [lr]; omega) ?_
        have hn3 : H3 D = none := sG4.free hDn
        have hDpl : D ≠ pl := fun e => by rw [e, hG4] at hDn; exact nomatch hDn
        have hDps : D ∉ ps.map (·.1) := fun h => by
          obtain ⟨p, hp, e⟩ := List.mem_map.mp h
          rw [← e, (hps4 p hp).1] at hDn
          exact nomatch hDn
        refine ⟨ps ++ [(D, ms)], _, _, rfl, same_mut (sG4.trans sG3) hpl, ?_, by rw [List.length_append, hl]; rfl, fun p hp => ?_, ?_, ?_⟩
        · rw [upd_same]
          unfold refsI
          rw [List.map_append]
          rfl
        · rcases List.mem_append.mp hp with hp | hp
          · have np : p.1 ≠ pl := fun e => nl (e ▸ List.mem_map_of_mem hp)
            rw [upd_ne np]
            exact ⟨sG3 _ _ (hps4 p hp).1, (hps4 p hp).2⟩
          · rw [List.mem_singleton.mp hp, upd_ne hDpl]
            exact ⟨hG3, hn3, by show ms.length ≤ 5; omega, hmb⟩
        · rw [List.map_append]
          exact List.nodup_append.mpr ⟨nd, (by simp), fun x hx y hy e => by
            rw [show y = D from List.mem_singleton.mp hy] at e
            exact hDps (e ▸ hx)⟩
        · rw [List.map_append]
          intro h
          rcases List.mem_append.mp h with h | h
          · exact nl h
          · exact hDpl (List.mem_singleton.mp h).symm
    · obtain ⟨ps, y5, y6, rfl, sG, hG, hl, hps, nd, nl⟩ := hP
      walk_at "rd"
      refine ⟨l, sc, 21, rfl, (s3.trans sG).seq hS, by decide, ?_⟩
      walk_at "rd"
      refine ⟨_, 9, rfl, by omega, fun H4 pq gd s4 hpq hQ hql hqz => ?_⟩
      have sG4 := sG.trans s4
      have hG4 := s4 _ _ hG
      have hps4 : ∀ p ∈ ps, H4 p.1 = some (.lst (p.2.map V.int)) ∧ H3 p.1 = none ∧ p.2.length ≤ 5 ∧ ∀ x ∈ p.2, x.natAbs < 1000 := fun p hp => ⟨s4 _ _ (hps p hp).1, (hps p hp).2⟩
      clear hG hps s4 sG hpq
      walk_at "rd"
      refine r_ixL (SqL.of (sG4 _ _ hN3)) (at_int (by decide) (by omega)) ?_
      walk_at "rd"
      obtain ⟨u, eu, hu9⟩ : ∃ u : Nat, ns.getD (5 : Int).toNat 0 % 10 = (u : Int) ∧ u ≤ 9 := by
        have := emod_rng (ns.getD (5 : Int).toNat 0) (b := 10) (by decide)
        exact ⟨(ns.getD (5 : Int).toNat 0 % 10).toNat, by omega, by omega⟩
      rw [eu]
      refine r_slL (SqL.of hQ) (fun l2 hl2 => ?_)
      rw [cut_to _ u (by rw [List.length_map, hql]; exact hu9), ← List.map_take]
      have s5 := same_new (o := .lst ((gd.take u).map V.int)) hl2
      have sG5 := sG4.trans s5
      have hG5 := s5 _ _ hG4
      have hps5 : ∀ p ∈ ps, (upd H4 l2 (.lst ((gd.take u).map V.int))) p.1 = some (.lst (p.2.map V.int)) ∧ H3 p.1 = none ∧ p.2.length ≤ 5 ∧ ∀ x ∈ p.2, x.natAbs < 1000 := fun p hp => ⟨s5 _ _ (hps4 p hp).1, (hps4 p hp).2⟩
      have hL5 : (upd H4 l2 (.lst ((gd.take u).map V.int))) l2 = some (.lst ((gd.take u).map V.int)) := upd_same
      have lu : (gd.take u).length ≤ 9 := by rw [List.length_take]; omega
      clear hG4 hps4 s5 sG4 hl2 hQ
      generalize upd H4 l2 (.lst ((gd.take u).map V.int)) = H5 at *
      generalize gd.take u = gu at *
      walk_at "rd"
      refine ⟨⟨_, SqL.of hL5⟩, fun D hDn => ?_⟩
      have emx : (if (1 : Int) > (n : Int) then 1 else (n : Int)) = ((max n 1 : Nat) : Int) := by split <;> omega
      refine lc_list (xs := gu.map V.int) (fun j G3 => Same H5 G3 ∧ ∃ ms : List Int, G3 D = some (.lst (ms.map V.int)) ∧ ms.length = j ∧ ∀ x ∈ ms, x.natAbs < 1000) ⟨same_new hDn, [], upd_same, rfl, fun x hx => (nomatch hx)⟩ (fun j G3 _ hP => SqL.of (hP.1 _ _ hL5)) (fun j x G3 hx hP => ?_) (fun G3 hP => ?_)
      · obtain ⟨sG3, ms, hG3, hml, hmb⟩ := hP
        obtain ⟨z, hz1, rfl⟩ := ints_at hx
        have hj := (List.getElem?_eq_some_iff.mp hz1).1
        refine ⟨rfl, r_yes (iteT ?_)⟩
        walk_at "rd"
        refine ⟨_, _, rfl, ?_⟩
        rw [emx]
        refine r_mod (by omega) ?_
        have e1 := emod_rng z (b := ((max n 1 : Nat) : Int)) (by omega)
        refine ⟨_, hG3, by rw [List.length_map]; omega, same_mut sG3 hDn, ms ++ [_], by rw [upd_same, List.map_append]; rfl, by rw [List.length_append, hml]; rfl, fun x hx => ?_⟩
        rcases List.mem_append.mp hx with hx | hx
        · exact hmb x hx
        · rw [List.mem_singleton.mp hx]; omega
      · obtain ⟨sG3, ms, hG3, hml, hmb⟩ := hP
        rw [List.length_map] at hml
        walk_at "rd"
        refine r_ixL (SqL.of ((sG5.trans sG3) _ _ hN3)) (at_int (by decide) (by omega)) ?_
        walk_at "rd"
        refine ⟨_, _, rfl, ?_⟩
        rw [emx]
        refine r_mod (by omega) ?_
        have e1 := emod_rng (ns.getD (6 : Int).toNat 0) (b := ((max n 1 : Nat) : Int)) (by omega)
        walk_at "rd"
        refine ⟨ln3, fun t ht => ?_⟩
        have s6 := same_new (o := .tup [V.ref pl, V.int (ns.getD (6 : Int).toNat 0 % ((max n 1 : Nat) : Int)), V.ref D]) ht
        have sA := sG5.trans (sG3.trans s6)
        have hDps : D ∉ ps.map (·.1) := fun h => by
          obtain ⟨p, hp, e⟩ := List.mem_map.mp h
          rw [← e, (hps5 p hp).1] at hDn
          exact nomatch hDn
        refine q _ t pl D ps _ ms (s3.trans sA) upd_same ⟨(sG3.trans s6) _ _ hG5, fun p hp => (sG3.trans s6) _ _ (hps5 p hp).1, s6 _ _ hG3, nd, nl, hDps, fun e => by rw [← e, hG5] at hDn; exact nomatch hDn⟩ ⟨by omega, fun p hp => (hps5 p hp).2.2, by omega, hmb⟩ (by omega) (fun b hb => ?_) (s3.free hpl) (s3.free (sG5.free hDn))
        obtain ⟨p, hp, rfl⟩ := List.mem_map.mp hb
        exact s3.free (hps5 p hp).2.1
end

theorem Bds.mono {e e' : Nat} {ps : List (Addr × List Int)} {gs : List Int} (h : Bds e ps gs) (le : e ≤ e') : Bds e' ps gs := ⟨h.n, fun p hp => ⟨by have := (h.r p hp).1; omega, (h.r p hp).2⟩, by have := h.l; omega, h.b⟩
theorem refsI_fst {ps ps' : List (Addr × List Int)} (e : ps'.map (·.1) = ps.map (·.1)) : refsI ps' = refsI ps := by
  have h : ∀ qs : List (Addr × List Int), refsI qs = (qs.map (·.1)).map V.ref := fun qs => by rw [List.map_map]; rfl
  rw [h, h, e]
theorem fst_set {ps : List (Addr × List Int)} {j : Nat} {p : Addr × List Int} {xs : List Int} (hj : ps[j]? = some p) : (ps.set j (p.1, xs)).map (·.1) = ps.map (·.1) := by
  rw [List.map_set]
  refine List.ext_getElem? fun i => ?_
  rw [List.getElem?_set]
  by_cases e : j = i
  · subst e
    have hl := (List.getElem?_eq_some_iff.mp hj).1
    rw [if_pos rfl, if_pos (by rw [List.length_map]; exact hl), List.getElem?_map, hj]
    rfl
  · rw [if_neg e]
theorem mem_set' {ps : List (Addr × List Int)} {j : Nat} {p q : Addr × List Int} {xs : List Int} (nd : (ps.map (·.1)).Nodup) (hj : ps[j]? = some p) (hq : q ∈ ps.set j (p.1, xs)) : q = (p.1, xs) ∨ (q ∈ ps ∧ q.1 ≠ p.1) := by
  obtain ⟨i, hi⟩ := List.getElem?_of_mem hq
  rw [List.getElem?_set] at hi
  by_cases e : j = i
  · rw [if_pos e] at hi
    split at hi
    · exact .inl (Option.some.inj hi).symm
    · exact nomatch hi
  · rw [if_neg e] at hi
    refine .inr ⟨List.mem_of_getElem? hi, fun h => e ?_⟩
    have h1 : (ps.map (·.1))[j]? = some p.1 := by rw [List.getElem?_map, hj]; rfl
    have h2 : (ps.map (·.1))[i]? = some p.1 := by rw [List.getElem?_map, hi, ← h]; rfl
    exact (List.getElem?_inj (List.getElem?_eq_some_iff.mp h1).1 nd).mp (h1.trans h2.symm)
theorem Made.same {H H' : Hp} {pl pg : Addr} {ps : List (Addr × List Int)} {gs : List Int} (M : Made H pl ps pg gs) (s : Same H H') : Made H' pl ps pg gs := ⟨s _ _ M.hl, fun p hp => s _ _ (M.hr p hp), s _ _ M.hg, M.nd, M.nl, M.ng, M.ne⟩
theorem Made.put {H : Hp} {pl pg : Addr} {ps : List (Addr × List Int)} {gs : List Int} (M : Made H pl ps pg gs) {j : Nat} {p : Addr × List Int} (hj : ps[j]? = some p) (xs : List Int) : Made (upd H p.1 (.lst (xs.map V.int))) pl (ps.set j (p.1, xs)) pg gs := by
  have hm : p.1 ∈ ps.map (·.1) := List.mem_map_of_mem (List.mem_of_getElem? hj)
  refine ⟨?_, fun q hq => ?_, ?_, by rw [fst_set hj]; exact M.nd, by rw [fst_set hj]; exact M.nl, by rw [fst_set hj]; exact M.ng, M.ne⟩
  · rw [refsI_fst (fst_set hj), upd_ne (show pl ≠ p.1 from fun e => M.nl (e ▸ hm))]
    exact M.hl
  · rcases mem_set' M.nd hj hq with rfl | ⟨hq, ne⟩
    · exact upd_same
    · rw [upd_ne ne]
      exact M.hr q hq
  · rw [upd_ne (show pg ≠ p.1 from fun e => M.ng (e ▸ hm))]
    exact M.hg
theorem Made.putG {H : Hp} {pl pg : Addr} {ps : List (Addr × List Int)} {gs : List Int} (M : Made H pl ps pg gs) (gs' : List Int) : Made (upd H pg (.lst (gs'.map V.int))) pl ps pg gs' :=
  ⟨by rw [upd_ne M.ne]; exact M.hl, fun p hp => by rw [upd_ne (show p.1 ≠ pg from fun e => M.ng (e ▸ List.mem_map_of_mem hp))]; exact M.hr p hp, upd_same, M.nd, M.nl, M.ng, M.ne⟩
theorem Bds.put {e : Nat} {ps : List (Addr × List Int)} {gs : List Int} (B : Bds e ps gs) {j : Nat} {p : Addr × List Int} (nd : (ps.map (·.1)).Nodup) (hj : ps[j]? = some p) {xs : List Int} (hl : xs.length ≤ 5 + (e + 1)) (hb : ∀ x ∈ xs, x.natAbs < 1000) : Bds (e + 1) (ps.set j (p.1, xs)) gs :=
  ⟨by rw [List.length_set]; exact B.n, fun q hq => by
    rcases mem_set' nd hj hq with rfl | ⟨hq, _⟩
    · exact ⟨hl, hb⟩
    · exact ((B.mono (Nat.le_succ e)).r q hq), by have := B.l; omega, B.b⟩
/-- what does not lie at these addresses stays -/
def Keep (A : List Addr) (H H' : Hp) : Prop := ∀ b o, b ∉ A → H b = some o → H' b = some o
theorem Keep.same {A : List Addr} {H H1 H2 : Hp} (k : Keep A H H1) (s : Same H1 H2) : Keep A H H2 := fun b o hb h => s _ _ (k b o hb h)
theorem Keep.put {A : List Addr} {H H1 : Hp} (k : Keep A H H1) {p : Addr} (hp : p ∈ A) {o : HO} : Keep A H (upd H1 p o) := fun b u hb h => by
  rw [upd_ne (show b ≠ p from fun e => hb (e ▸ hp))]
  exact k b u hb h
theorem Keep.trans {A : List Addr} {H H1 H2 : Hp} (k : Keep A H H1) (k2 : Keep A H1 H2) : Keep A H H2 := fun b o hb h => k2 b o hb (k b o hb h)
structure JSp (H : Hp) (pl pg pn : Addr) (st c bd pc : Int) (ps : List (Addr × List Int)) (e : Nat) (r : Int) (k : Nat) (σ : L2.St) (G : Hp) : Prop where
  ex : ∃ y ps' gs' d, σ = [some (.ref pl), some (.int st), some (.ref pg), some (.ref pn), some (.int c), some (.int bd), some (.int pc), y] ∧ ps'.map (·.1) = ps.map (·.1) ∧ Keep (pg :: ps.map (·.1)) H G ∧ Made G pl ps' pg gs' ∧ Bds (e + d) ps' gs' ∧ d ≤ 1 ∧ (d = 1 → r < (k : Int))
section
variable {P : Program} {w : World} {K : PySem.W.Frag} {mg : Str → Option Value} {base : Heap} {a : Ad}
def spSpoils (K : PySem.W.Frag) : Sp := fun vs H Q _ => ∃ (pl pg pn : Addr) (ps : List (Addr × List Int)) (st : Int) (gs nn : List Int) (e : Nat), vs = [.ref pl, .int st, .ref pg, .ref pn] ∧ Made H pl ps pg gs ∧ Bds e ps gs ∧ e ≤ 5 ∧ st.natAbs < 1000 ∧
  H pn = some (.lst (nn.map V.int)) ∧ 5 ≤ nn.length ∧ (∀ z ∈ nn, 0 ≤ z ∧ z < 1000) ∧ pn ∉ pg :: ps.map (·.1) ∧
  ∀ (H' : Hp) (ps' : List (Addr × List Int)) (gs' : List Int) (st' : Int), ps'.map (·.1) = ps.map (·.1) → Keep (pg :: ps.map (·.1)) H H' → Made H' pl ps' pg gs' → Bds (e + 1) ps' gs' → st'.natAbs < 1000 → Q (.int st') H'
theorem ok_l_spoils (T : Txt K mg a) : FnOk P w K mg base CX0 1 a.f_l_spoils a.d_l_spoils ["steps", "start", "good", "numbers"] (spSpoils K) := by
  refine T.F_l_spoils.ok sc_l_spoils (fun vs H Q E h => ?_) (fun cdv A outer s H vs Q E hr h => ?_)
  · obtain ⟨pl, pg, pn, ps, st, gs, nn, e, rfl, _⟩ := h
    rfl
  · obtain ⟨pl, pg, pn, ps, st, gs, nn, e, rfl, M, B, e5, bst, hN, n5, hz, nA, q⟩ := h
    have zl : (sizeLine : Nat) = 16777216 := by decide
    have lr := refsI_len ps
    have nz : ∀ j, j < 5 → 0 ≤ nn.getD j 0 ∧ nn.getD j 0 < 1000 := fun j hj => by
      rw [List.getD_eq_getElem?_getD, List.getElem?_eq_getElem (by omega)]
      exact hz _ (List.getElem_mem _)
    have emx : (if (1 : Int) > (ps.length : Int) then 1 else (ps.length : Int)) = ((max ps.length 1 : Nat) : Int) := by split <;> omega
    have c42 := B.n
    refine ⟨_, (pss_cons (ps_set (i := 4) sc_l_spoils.nd rfl (Or.inl rfl) (pe_callB (call_lenQK (K := K) rfl) (by rfl) T.z_len (by decide +kernel) (pa_cons (pv 0) pa_nil)))
      (pss_cons (ps_set (i := 5) sc_l_spoils.nd rfl (Or.inl rfl) (pe_ix (ix_listK (K := K) rfl) (pe_lst (pa_cons (pe_un un_neg pe_int) (pa_cons (pv 4) (pa_cons (pe_op op_add (pv 4) (pe_op op_mod (pe_ix (ix_listK (K := K) rfl) (pv 3) pe_int (fun _ _ => rfl)) pe_int)) pa_nil)))) (pe_op op_mod (pe_ix (ix_listK (K := K) rfl) (pv 3) pe_int (fun _ _ => rfl)) pe_int) (fun _ _ => rfl)))
      (pss_cons (ps_set (i := 6) sc_l_spoils.nd rfl (Or.inl rfl) (pe_op op_mod (pe_ix (ix_listK (K := K) rfl) (pv 3) pe_int (fun _ _ => rfl)) (pe_callB (call_max2 rfl) (by rfl) T.z_max (by decide +kernel) (pa_cons (pv 4) (pa_cons pe_int pa_nil)))))
      (pss_cons (ps_if (PW.pt (pw_and (pt_cmpR op_eq (pe_op op_mod (pe_ix (ix_listK (K := K) rfl) (pv 3) pe_int (fun _ _ => rfl)) pe_int) pe_int (nomark _)) (pw_and (pt_cmpR op_gt (pv 4) pe_int (nomark _)) (pw_and1 (pt_cmpR (op_neDK (K := K) rfl hr.units) (pe_ix (ix_listK (K := K) rfl) (pv 0) (pv 6) (fun _ _ => rfl)) (pe_lst pa_nil) (nomark _)))))) (pss_cons (ps_set (i := 7) sc_l_spoils.nd rfl (Or.inl rfl) (pe_ix (ix_listK (K := K) rfl) (pv 0) (pv 6) (fun _ _ => rfl)))
      (pss_one (ps_asg (pv 5) (pg_sub (pv 7) (pe_op op_mod (pe_ix (ix_listK (K := K) rfl) (pv 3) pe_int (fun _ _ => rfl)) (pe_callB (call_lenQK (K := K) rfl) (by rfl) T.z_len (by decide +kernel) (pa_cons (pv 7) pa_nil))) set_list)))) pss_nil)
      (pss_cons (ps_if (PW.pt (pw_and (pt_cmpR op_eq (pe_op op_mod (pe_ix (ix_listK (K := K) rfl) (pv 3) pe_int (fun _ _ => rfl)) pe_int) pe_int (nomark _)) (pw_and1 (pt_cmpR op_gt (pv 4) pe_int (nomark _))))) (pss_cons (ps_set (i := 7) sc_l_spoils.nd rfl (Or.inl rfl) (pe_ix (ix_listK (K := K) rfl) (pv 0) (pv 6) (fun _ _ => rfl)))
      (pss_one (ps_expr (bmK (K := K) rfl (pe_bm PySem.F.plainAttrs_list PySem.F.slot_list_append PySem.F.type_list_append mt_append (pv 7) (pa_cons pe_int pa_nil)))))) pss_nil)
      (pss_cons (ps_if (PW.pt (pw_and (pt_cmpR op_eq (pe_op op_mod (pe_ix (ix_listK (K := K) rfl) (pv 3) pe_int (fun _ _ => rfl)) pe_int) pe_int (nomark _)) (pw_and (pt_cmpR op_gt (pv 4) pe_int (nomark _)) (pw_and1 (pt_cmpR (op_neDK (K := K) rfl hr.units) (pe_ix (ix_listK (K := K) rfl) (pv 0) (pv 6) (fun _ _ => rfl)) (pe_lst pa_nil) (nomark _)))))) (pss_cons (ps_set (i := 7) sc_l_spoils.nd rfl (Or.inl rfl) (pe_ix (ix_listK (K := K) rfl) (pv 0) (pv 6) (fun _ _ => rfl)))
      (pss_one (ps_expr (bm0K (K := K) rfl (pe_bm0 PySem.F.plainAttrs_list PySem.F.slot_list_pop PySem.F.type_list_pop mt_pop (pv 7)))))) pss_nil)
      (pss_cons (ps_if (pt_cmpR op_eq (pe_op op_mod (pe_ix (ix_listK (K := K) rfl) (pv 3) pe_int (fun _ _ => rfl)) pe_int) pe_int (nomark _)) (pss_one (ps_expr (bmK (K := K) rfl (pe_bm PySem.F.plainAttrs_list PySem.F.slot_list_insert PySem.F.type_list_insert mt_insert (pv 2) (pa_cons (pe_op op_mod (pe_ix (ix_listK (K := K) rfl) (pv 3) pe_int (fun _ _ => rfl)) (pe_op op_add (pe_callB (call_lenQK (K := K) rfl) (by rfl) T.z_len (by decide +kernel) (pa_cons (pv 2) pa_nil)) pe_int)) (pa_cons (pv 5) pa_nil)))))) pss_nil)
      (pss_cons (ps_if (pt_cmpR op_eq (pe_op op_mod (pe_ix (ix_listK (K := K) rfl) (pv 3) pe_int (fun _ _ => rfl)) pe_int) pe_int (nomark _)) (pss_one (ps_ret (pv 5))) pss_nil)
      (pss_one (ps_ret (pv 1))))))))))), ?_⟩
    walk_at "rd"
    refine r_lenL (SqL.of M.hl) ?_
    walk_at "rd"
    rw [lr]
    refine r_ixL (SqL.of hN) (at_int (by decide) (by omega)) ?_
    walk_at "rd"
    refine ⟨by show 3 ≤ _; omega, fun p3 hp3 => ?_⟩
    have s1 := same_new (o := .lst [V.int (-1), V.int (ps.length : Int), V.int ((ps.length : Int) + nn.getD (1 : Int).toNat 0 % 50)]) hp3
    walk_at "rd"
    refine r_ixL (SqL.of (s1 _ _ hN)) (at_int (by decide) (by omega)) ?_
    walk_at "rd"
    obtain ⟨bd, ebd, b1, b2⟩ : ∃ z, atI [V.int (-1), V.int (ps.length : Int), V.int ((ps.length : Int) + nn.getD (1 : Int).toNat 0 % 50)] (nn.getD (2 : Int).toNat 0 % 3) = some (.int z) ∧ -1 ≤ z ∧ z ≤ 100 := by
      have e1 := emod_rng (nn.getD (1 : Int).toNat 0) (b := 50) (by decide)
      have e4 := emod_rng (nn.getD (2 : Int).toNat 0) (b := 3) (by decide)
      exact at3 e4.1 e4.2 ⟨by omega, by omega⟩ ⟨by omega, by omega⟩ ⟨by omega, by omega⟩
    refine r_ixL (SqL.of upd_same) ebd ?_
    have M1 := M.same s1
    have hN1 := s1 _ _ hN
    have K1 : Keep (pg :: ps.map (·.1)) H (upd H p3 (.lst [V.int (-1), V.int (ps.length : Int), V.int ((ps.length : Int) + nn.getD (1 : Int).toNat 0 % 50)])) := fun b o _ h => s1 _ _ h
    clear s1 hp3 ebd
    generalize upd H p3 (.lst [V.int (-1), V.int (ps.length : Int), V.int ((ps.length : Int) + nn.getD (1 : Int).toNat 0 % 50)]) = H1 at *
    have e1 := emod_rng (nn.getD (3 : Int).toNat 0) (b := ((max ps.length 1 : Nat) : Int)) (by omega)
    obtain ⟨pc, epc, hpc⟩ : ∃ pc : Nat, nn.getD (3 : Int).toNat 0 % ((max ps.length 1 : Nat) : Int) = (pc : Int) ∧ pc < max ps.length 1 := ⟨(nn.getD (3 : Int).toNat 0 % ((max ps.length 1 : Nat) : Int)).toNat, by omega, by omega⟩
    obtain ⟨r, er⟩ : ∃ r : Int, nn.getD (0 : Int).toNat 0 % 7 = r := ⟨_, rfl⟩
    with_reducible refine r_cutJ (JSp H pl pg pn st ps.length bd pc ps e r 0) (fun σ G hJ => ?_) (fun key => ?_)
    rotate_left
    · walk_at "rd"
      refine r_ixL (SqL.of hN1) (at_int (by decide) (by omega)) ?_
      walk_at "rd"
      refine ⟨_, _, rfl, ?_⟩
      rw [emx]
      refine r_mod (by omega) ?_
      rw [epc]
      exact key _ _ ⟨none, ps, gs, 0, rfl, rfl, K1, M1, B, by decide, fun h => (nomatch h)⟩
    clear e1 epc hN1 K1 M1
    have hNG : ∀ G : Hp, Keep (pg :: ps.map (·.1)) H G → SqL K G pn (nn.map V.int) := fun G k => SqL.of (k pn _ nA hN)
    have len' : ∀ ps' : List (Addr × List Int), ps'.map (·.1) = ps.map (·.1) → ps'.length = ps.length := fun ps' e => by
      have := congrArg List.length e
      rw [List.length_map, List.length_map] at this
      exact this
    have inA : ∀ {ps' : List (Addr × List Int)} {p : Addr × List Int}, ps'.map (·.1) = ps.map (·.1) → p ∈ ps' → p.1 ∈ pg :: ps.map (·.1) := fun e h => List.mem_cons_of_mem _ (e ▸ List.mem_map_of_mem h)
    have n4 := nz 4 (by decide)
    have next : ∀ {k : Nat} {σ : L2.St} {G G' : Hp}, JSp H pl pg pn st ps.length bd pc ps e r k σ G → Same G G' → JSp H pl pg pn st ps.length bd pc ps e r (k + 1) σ G' := fun ⟨⟨y, ps', gs', d, e0, e1, k, m, b, d1, dr⟩⟩ s => ⟨y, ps', gs', d, e0, e1, k.same s, m.same s, b, d1, fun z => by have := dr z; omega⟩
    -- 0
    with_reducible refine r_cutJ (JSp H pl pg pn st ps.length bd pc ps e r 1) (fun σ G hJ => ?_) (fun key => ?_)
    rotate_left
    · have hJ' := hJ
      obtain ⟨y, ps', gs', d, rfl, e1, k, m, b, d1, dr⟩ := hJ
      have l' := len' ps' e1
      walk_at "rd"
      refine r_ixL (hNG G k) (at_int (by decide) (by omega)) ?_
      walk_at "rd"
      rw [er]
      refine r_iteD (fun h0 => ?_) (fun h0 => iteF (r_next (key _ _ (next hJ' (Same.refl G)))))
      walk_at "rd"
      refine r_iteD (fun h1 => ?_) (fun h1 => iteF (r_next (key _ _ (next hJ' (Same.refl G)))))
      obtain ⟨p, hp⟩ : ∃ p, ps'[pc]? = some p := ⟨_, List.getElem?_eq_getElem (by omega)⟩
      have hpm := List.mem_of_getElem? hp
      walk_at "rd"
      refine r_ixL (SqL.of m.hl) (at_refsI rfl hp) ?_
      walk_at "rd"
      refine ⟨Nat.zero_le _, fun p2 hp2 => ?_⟩
      have s2 := same_new (o := .lst []) hp2
      refine r_neD (dp_ints (SqL.of (s2 _ _ (m.hr p hpm)))) (dp_ints (A := []) (SqL.of upd_same)) (shaped_ints _) (shaped_ints _) ?_
      rw [eqv_nilI]
      walk_at "rd"
      refine r_iteN (fun h2 => ?_) (fun h2 => r_next (key _ _ (next hJ' s2)))
      have m2 := m.same s2
      have k2 := k.same s2
      generalize upd G p2 (.lst []) = G2 at *
      walk_at "rd"
      refine r_ixL (SqL.of m2.hl) (at_refsI rfl hp) ?_
      walk_at "rd"
      refine r_ixL (hNG G2 k2) (at_int (by decide) (by omega)) ?_
      walk_at "rd"
      refine r_lenL (SqL.of (m2.hr p hpm)) ?_
      rw [List.length_map]
      have lp : 0 < p.2.length := List.length_pos_iff.mpr h2
      refine r_mod (by omega) ?_
      have e5 := emod_rng (nn.getD (4 : Int).toNat 0) (b := (p.2.length : Int)) (by omega)
      refine r_setL (m2.hr p hpm) e5.1 (by rw [List.length_map]; exact e5.2) ?_
      rw [map_set_int]
      have bp := (b.r p hpm)
      have d0 : d = 0 := by
        rcases Nat.eq_zero_or_pos d with z | z
        · exact z
        · have := dr (by omega)
          omega
      subst d0
      refine key _ _ ⟨_, _, gs', 1, rfl, (fst_set hp).trans e1, k2.put (inA e1 hpm), m2.put hp _, b.put m.nd hp (by rw [List.length_set]; omega) (fun x hx => ?_), by decide, fun _ => by omega⟩
      rcases List.mem_or_eq_of_mem_set hx with hx | hx
      · exact bp.2 x hx
      · rw [hx]; omega
    -- 1
    with_reducible refine r_cutJ (JSp H pl pg pn st ps.length bd pc ps e r 2) (fun σ G hJ => ?_) (fun key => ?_)
    rotate_left
    · have hJ' := hJ
      obtain ⟨y, ps', gs', d, rfl, e1, k, m, b, d1, dr⟩ := hJ
      have l' := len' ps' e1
      walk_at "rd"
      refine r_ixL (hNG G k) (at_int (by decide) (by omega)) ?_
      walk_at "rd"
      rw [er]
      refine r_iteD (fun h0 => ?_) (fun h0 => iteF (r_next (key _ _ (next hJ' (Same.refl G)))))
      walk_at "rd"
      refine r_iteD (fun h1 => ?_) (fun h1 => r_next (key _ _ (next hJ' (Same.refl G))))
      obtain ⟨p, hp⟩ : ∃ p, ps'[pc]? = some p := ⟨_, List.getElem?_eq_getElem (by omega)⟩
      have hpm := List.mem_of_getElem? hp
      have bp := (b.r p hpm)
      have d0 : d = 0 := by
        rcases Nat.eq_zero_or_pos d with z | z
        · exact z
        · have := dr (by omega)
          omega
      subst d0
      walk_at "rd"
      refine r_ixL (SqL.of m.hl) (at_refsI rfl hp) ?_
      walk_at "rd"
      refine ⟨ty_l (SqL.of (m.hr p hpm)), ?_⟩
      walk_at "rd"
      refine r_append (m.hr p hpm) (by rw [List.length_map]; omega) ?_
      rw [show p.2.map V.int ++ [V.int 0] = (p.2 ++ [0]).map V.int by rw [List.map_append]; rfl]
      refine key _ _ ⟨_, _, gs', 1, rfl, (fst_set hp).trans e1, k.put (inA e1 hpm), m.put hp _, b.put m.nd hp (by rw [List.length_append]; show p.2.length + 1 ≤ _; omega) (fun x hx => ?_), by decide, fun _ => by omega⟩
      rcases List.mem_append.mp hx with hx | hx
      · exact bp.2 x hx
      · rw [List.mem_singleton.mp hx]; decide
    -- 2
    with_reducible refine r_cutJ (JSp H pl pg pn st ps.length bd pc ps e r 3) (fun σ G hJ => ?_) (fun key => ?_)
    rotate_left
    · have hJ' := hJ
      obtain ⟨y, ps', gs', d, rfl, e1, k, m, b, d1, dr⟩ := hJ
      have l' := len' ps' e1
      walk_at "rd"
      refine r_ixL (hNG G k) (at_int (by decide) (by omega)) ?_
      walk_at "rd"
      rw [er]
      refine r_iteD (fun h0 => ?_) (fun h0 => iteF (r_next (key _ _ (next hJ' (Same.refl G)))))
      walk_at "rd"
      refine r_iteD (fun h1 => ?_) (fun h1 => iteF (r_next (key _ _ (next hJ' (Same.refl G)))))
      obtain ⟨p, hp⟩ : ∃ p, ps'[pc]? = some p := ⟨_, List.getElem?_eq_getElem (by omega)⟩
      have hpm := List.mem_of_getElem? hp
      walk_at "rd"
      refine r_ixL (SqL.of m.hl) (at_refsI rfl hp) ?_
      walk_at "rd"
      refine ⟨Nat.zero_le _, fun p2 hp2 => ?_⟩
      have s2 := same_new (o := .lst []) hp2
      refine r_neD (dp_ints (SqL.of (s2 _ _ (m.hr p hpm)))) (dp_ints (A := []) (SqL.of upd_same)) (shaped_ints _) (shaped_ints _) ?_
      rw [eqv_nilI]
      walk_at "rd"
      refine r_iteN (fun h2 => ?_) (fun h2 => r_next (key _ _ (next hJ' s2)))
      have m2 := m.same s2
      have k2 := k.same s2
      generalize upd G p2 (.lst []) = G2 at *
      have bp := (b.r p hpm)
      have d0 : d = 0 := by
        rcases Nat.eq_zero_or_pos d with z | z
        · exact z
        · have := dr (by omega)
          omega
      subst d0
      have lp : 0 < p.2.length := List.length_pos_iff.mpr h2
      walk_at "rd"
      refine r_ixL (SqL.of m2.hl) (at_refsI rfl hp) ?_
      walk_at "rd"
      refine r_var rfl ⟨ty_l (SqL.of (m2.hr p hpm)), p.1, _, _, rfl, rfl, m2.hr p hpm, List.getElem?_eq_getElem (by rw [List.length_map]; omega), ?_⟩
      rw [← List.map_dropLast]
      refine key _ _ ⟨_, _, gs', 1, rfl, (fst_set hp).trans e1, k2.put (inA e1 hpm), m2.put hp _, b.put m.nd hp (by rw [List.length_dropLast]; omega) (fun x hx => bp.2 x ((List.dropLast_sublist _).subset hx)), by decide, fun _ => by omega⟩
    -- 3
    with_reducible refine r_cutJ (JSp H pl pg pn st ps.length bd pc ps e r 4) (fun σ G hJ => ?_) (fun key => ?_)
    rotate_left
    · have hJ' := hJ
      obtain ⟨y, ps', gs', d, rfl, e1, k, m, b, d1, dr⟩ := hJ
      walk_at "rd"
      refine r_ixL (hNG G k) (at_int (by decide) (by omega)) ?_
      walk_at "rd"
      rw [er]
      refine r_iteD (fun h0 => ?_) (fun h0 => r_next (key _ _ (next hJ' (Same.refl G))))
      have d0 : d = 0 := by
        rcases Nat.eq_zero_or_pos d with z | z
        · exact z
        · have := dr (by omega)
          omega
      subst d0
      have bl := b.l
      walk_at "rd"
      refine ⟨ty_l (SqL.of m.hg), ?_⟩
      walk_at "rd"
      refine r_ixL (hNG G k) (at_int (by decide) (by omega)) ?_
      walk_at "rd"
      refine r_lenL (SqL.of m.hg) ?_
      rw [List.length_map]
      walk_at "rd"
      refine r_mod (by omega) ?_
      have e5 := emod_rng (nn.getD (4 : Int).toNat 0) (b := (gs'.length : Int) + 1) (by omega)
      walk_at "rd"
      refine ⟨pg, _, _, V.int bd, rfl, rfl, m.hg, by rw [List.length_map]; omega, e5.1, by omega, ?_⟩
      rw [show ∀ i, (gs'.map V.int).take i ++ [V.int bd] ++ (gs'.map V.int).drop i = (gs'.take i ++ [bd] ++ gs'.drop i).map V.int from fun i => by rw [List.map_append, List.map_append, List.map_take, List.map_drop]; rfl]
      have bb := b.mono (Nat.le_succ e)
      refine key _ _ ⟨_, ps', _, 1, rfl, e1, k.put List.mem_cons_self, m.putG _, ⟨bb.n, bb.r, ?_, fun x hx => ?_⟩, by decide, fun _ => by omega⟩
      · rw [List.length_append, List.length_append, List.length_take, List.length_drop]
        show _ + 1 + _ ≤ _
        omega
      · rcases List.mem_append.mp hx with hx | hx
        · rcases List.mem_append.mp hx with hx | hx
          · exact b.b x (List.mem_of_mem_take hx)
          · rw [List.mem_singleton.mp hx]; omega
        · exact b.b x (List.mem_of_mem_drop hx)
    -- 4
    obtain ⟨y, ps', gs', d, rfl, e1, k, m, b, d1, dr⟩ := hJ
    walk_at "rd"
    refine r_ixL (hNG G k) (at_int (by decide) (by omega)) ?_
    walk_at "rd"
    rw [er]
    refine r_iteD (fun h0 => ?_) (fun h0 => ?_)
    · walk_at "rd"
      exact q G ps' gs' bd e1 k m (b.mono (by omega)) (by omega)
    · walk_at "rd"
      exact q G ps' gs' st e1 k m (b.mono (by omega)) bst
end

def listsD (ss : List (List Int)) : PyData := .list (ss.map fun r => .list (r.map .int))
theorem lay_lists : ∀ ss : List (List Int), PyData.canLayAll0 (ss.map fun r => PyData.list (r.map .int)) = true
  | [] => rfl
  | r :: rs => Bool.and_eq_true_iff.mpr ⟨by
      show PyData.canLayAll0 (r.map .int) = true
      exact lay_ints _, lay_lists rs⟩
theorem depth_lists : ∀ ss : List (List Int), PyData.depthAll (ss.map fun r => PyData.list (r.map .int)) ≤ 2
  | [] => by decide
  | r :: rs => by
    show max (PyData.depthAll (r.map .int) + 1) (PyData.depthAll (rs.map fun r => PyData.list (r.map .int))) ≤ 2
    have h1 := depth_lists rs
    rw [depth_ints]
    omega
theorem shaped_lists (ss : List (List Int)) : SeqAt.shaped (listsD ss) = true := by
  refine Bool.and_eq_true_iff.mpr ⟨lay_lists ss, decide_eq_true ?_⟩
  show PyData.depthAll (ss.map fun r => PyData.list (r.map .int)) + 1 ≤ 64
  have := depth_lists ss
  omega
theorem eqv_self {d : PyData} (h : SeqAt.shaped d = true) : PyData.eqv d d = true := SeqAt.eqv_refl d (SeqAt.canLay_of_shaped h)
theorem dp_lists {K : PySem.W.Frag} {H : Hp} {p : Addr} {ps : List (Addr × List Int)} (h : SqL K H p (refsI ps)) (hall : ∀ q ∈ ps, SqL K H q.1 (q.2.map V.int)) : Dp K H (.ref p) (listsD (ps.map (·.2))) := by
  refine .lst h ?_
  clear h
  induction ps with
  | nil => exact .nil
  | cons q ps ih => exact .cons (dp_ints (hall q List.mem_cons_self)) (ih fun q' hq => hall q' (List.mem_cons_of_mem _ hq))
theorem fits_mac {ss : List (List Int)} {st : Int} {g : List Nat} (h1 : ss.length ≤ 1000) (h2 : ∀ r ∈ ss, r.length ≤ 1000) (h3 : g.length ≤ 1000) : fits 4 (macI ss st g) := by
  have zl : (sizeLine : Nat) = 16777216 := by decide
  refine ⟨by show 3 ≤ _; omega, fun d hd => ?_⟩
  rcases List.mem_cons.mp hd with rfl | hd
  · refine ⟨by rw [List.length_map]; omega, fun d hd => ?_⟩
    obtain ⟨r, hr, rfl⟩ := List.mem_map.mp hd
    refine ⟨by rw [List.length_map]; have := h2 r hr; omega, fun d hd => ?_⟩
    obtain ⟨i, _, rfl⟩ := List.mem_map.mp hd
    trivial
  rcases List.mem_cons.mp hd with rfl | hd
  · trivial
  · rw [List.mem_singleton.mp hd]
    refine ⟨by rw [List.length_map]; omega, fun d hd => ?_⟩
    obtain ⟨i, _, rfl⟩ := List.mem_map.mp hd
    trivial
theorem normL_len {n : Nat} {xs : List Nat} : (normL n xs).length ≤ n := by
  unfold normL
  refine Nat.le_trans (List.length_filter_le _ _) ?_
  rw [List.length_range]
  exact Nat.le_refl _
section
variable {P : Program} {w : World} {K : PySem.W.Frag} {mg : Str → Option Value} {base : Heap} {a : Ad}
theorem Made.lists {e : Nat} {H : Hp} {pl pg : Addr} {ps : List (Addr × List Int)} {gs : List Int} (M : Made H pl ps pg gs) (B : Bds e ps gs) (e5 : e ≤ 10) : Lists K H pl ps pg gs :=
  ⟨SqL.of M.hl, fun p hp => ⟨SqL.of (M.hr p hp), by have := (B.r p hp).1; omega, fun x hx => by have := (B.r p hp).2 x hx; omega⟩, by have := B.n; omega, M.hg, fun x hx => by have := B.b x hx; omega, by have := B.l; omega⟩
def sp_law (K : PySem.W.Frag) (a : Ad) : Sp := fun vs H Q _ => ∃ (pa : Addr) (ns : List Int), vs = [.ref pa] ∧ SqL K H pa (ns.map V.int) ∧ ns.length ≤ 63 ∧ LamX.Tabs (tabsOf a) H ∧ ∀ H', Q (.bl true) H'
theorem ok_law (T : Txt K mg a) : FnOk P w K mg base CX0 5 a.f_law a.d_law ["script"] (sp_law K a) := by
  have G_l_cell := ok_l_cell (P := P) (w := w) (base := base) T
  have G_l_drawn := ok_l_drawn (P := P) (w := w) (base := base) T
  have G_l_is_good := ok_l_is_good (P := P) (w := w) (base := base) T
  have G_l_numbers := ok_l_numbers (P := P) (w := w) (base := base) T
  have G_l_refused := ok_l_refused (P := P) (w := w) (base := base) T
  have G_l_same := ok_l_same (P := P) (w := w) (base := base) T
  have G_l_spoils := ok_l_spoils (P := P) (w := w) (base := base) T
  have G_make_machine := ok_make_machine (P := P) (w := w) (base := base) T
  refine T.F_law.ok sc_law (fun vs H Q E h => ?_) (fun cdv A outer s H vs Q E hr h => ?_)
  · obtain ⟨l, ns, rfl, _⟩ := h
    rfl
  · obtain ⟨l, sc, rfl, hS, _, _, q⟩ := h
    have zl : (sizeLine : Nat) = 16777216 := by decide
    refine ⟨_, (pss_cons (ps_asg (pe_call (G_l_drawn) (hr.mono (by first | decide | omega)) (by rfl) T.g_l_drawn T.F_l_drawn.kp T.b_l_drawn .nil pass0 (pa_cons (pv 0) pa_nil)) (pg_tupK (K := K) rfl rfl (pgs_cons (pg_name (i := 1) sc_law.nd rfl (Or.inl rfl)) (pgs_cons (pg_name (i := 2) sc_law.nd rfl (Or.inl rfl)) (pgs_cons (pg_name (i := 3) sc_law.nd rfl (Or.inl rfl)) pgs_nil)))))
      (pss_cons (ps_set (i := 4) sc_law.nd rfl (Or.inl rfl) (pe_call (G_l_numbers) (hr.mono (by first | decide | omega)) (by rfl) T.g_l_numbers T.F_l_numbers.kp T.b_l_numbers .nil pass0 (pa_cons (pe_call (G_l_cell) (hr.mono (by first | decide | omega)) (by rfl) T.g_l_cell T.F_l_cell.kp T.b_l_cell .nil pass0 (pa_cons (pv 0) (pa_cons pe_int pa_nil))) (pa_cons pe_int pa_nil))))
      (pss_cons (ps_for PassesOwn.never rfl (pi_range1 (by rfl) T.z_range (pa_cons (pe_op op_add (pe_op op_fdiv (pe_op op_mod (pe_ix (ix_listK (K := K) rfl) (pv 4) pe_int (fun _ _ => rfl)) pe_int) pe_int) (pe_op op_mul (pe_op op_mod (pe_ix (ix_listK (K := K) rfl) (pv 4) pe_int (fun _ _ => rfl)) pe_int) (pe_op op_fdiv (pe_op op_mod (pe_ix (ix_listK (K := K) rfl) (pv 4) pe_int (fun _ _ => rfl)) pe_int) pe_int))) pa_nil)) (pg_name (i := 5) sc_law.nd rfl (Or.inl rfl)) (pss_one (ps_set (i := 2) sc_law.nd rfl (Or.inl rfl) (pe_call (G_l_spoils) (hr.mono (by first | decide | omega)) (by rfl) T.g_l_spoils T.F_l_spoils.kp T.b_l_spoils .nil pass0 (pa_cons (pv 1) (pa_cons (pv 2) (pa_cons (pv 3) (pa_cons (pe_slice (sl_listK (K := K) rfl) (pv 4) (po_some (pe_op op_mul pe_int (pv 5))) po_none) pa_nil))))))))
      (pss_cons (ps_setLc (i := 6) (own := [("entry", 9)]) (g := gName 9) (tt := tYes) rfl sc_law.nd rfl rfl (sw_true rfl rfl rfl (by decide +kernel)) (pi_listK (K := K) rfl (pv 1)) (blkOk_by (N := N_law) (sc := (defScope s_law)) (by decide +kernel)) (fun _ _ _ _ _ => pg_name (i := 9) sc_law.nd rfl (by first | exact Or.inl rfl | exact Or.inr rfl)) (fun _ _ _ _ _ => pts_nil) (fun _ _ _ _ _ => (pe_callTy (call_lstOfK (K := K) rfl) (by rfl) T.z_list (by decide +kernel) (pa_cons (pv 9) pa_nil))))
      (pss_cons (ps_set (i := 7) sc_law.nd rfl (Or.inl rfl) (pe_callTy (call_lstOfK (K := K) rfl) (by rfl) T.z_list (by decide +kernel) (pa_cons (pv 3) pa_nil)))
      (pss_cons (ps_if (pt_not (pt_val (pe_call (G_l_is_good) (hr.mono (by first | decide | omega)) (by rfl) T.g_l_is_good T.F_l_is_good.kp T.b_l_is_good .nil pass0 (pa_cons (pv 1) (pa_cons (pv 2) (pa_cons (pv 3) pa_nil)))))) (pss_one (ps_if (pt_not (pt_val (pe_call (G_l_refused) (hr.mono (by first | decide | omega)) (by rfl) T.g_l_refused T.F_l_refused.kp T.b_l_refused .nil pass0 (pa_cons (pv 6) (pa_cons (pv 2) (pa_cons (pv 7) pa_nil)))))) (pss_one (ps_ret pe_bl)) pss_nil)) (pss_cons (ps_set (i := 8) sc_law.nd rfl (Or.inl rfl) (pe_tup (pa_cons (pe_callTy (call_tupOfK (K := K) rfl) (by rfl) T.z_tuple (by decide +kernel) (pa_cons (pe_lc (own := [("entry", 9)]) (g := gName 9) (tt := tYes) rfl sc_law.nd (pi_listK (K := K) rfl (pv 1)) (blkOk_by (N := N_law) (sc := (defScope s_law)) (by decide +kernel)) (fun _ _ _ _ _ => pg_name (i := 9) sc_law.nd rfl (by first | exact Or.inl rfl | exact Or.inr rfl)) (fun _ _ _ _ _ => pts_nil) (fun _ _ _ _ _ => (pe_callTy (call_tupOfK (K := K) rfl) (by rfl) T.z_tuple (by decide +kernel) (pa_cons (pv 9) pa_nil)))) pa_nil)) (pa_cons (pv 2) (pa_cons (pe_callTy (call_tupOfK (K := K) rfl) (by rfl) T.z_tuple (by decide +kernel) (pa_cons (pe_callB (cr_sortedSetW (w := w) rfl rfl) (by rfl) T.z_sorted (by decide +kernel) (pa_cons (pe_callTy (cr_setLw (K := K) (w := w) rfl rfl rfl) (by rfl) T.z_set (by decide +kernel) (pa_cons (pv 3) pa_nil)) pa_nil)) pa_nil)) pa_nil)))))
      (pss_one (ps_if (pt_not (pt_val (pe_call (G_l_same) (hr.mono (by first | decide | omega)) (by rfl) T.g_l_same T.F_l_same.kp T.b_l_same .nil pass0 (pa_cons (pe_callS (G_make_machine) (hr.mono (by first | decide | omega)) (by rfl) T.g_make_machine T.F_make_machine.kp T.b_make_machine (fun σ => passAt takes0 σ) (pa_cons (pv 6) (pa_cons (pv 2) (pa_cons (pv 7) pa_nil)))) (pa_cons (pv 8) pa_nil))))) (pss_one (ps_ret pe_bl)) pss_nil))))
      (pss_one (ps_ret (pe_and (pe_cmpR (op_eqDK (K := K) rfl hr.units) (pv 6) (pv 1) (nomark _)) (pe_one (pe_cmpR (op_eqDK (K := K) rfl hr.units) (pv 7) (pv 3) (nomark _)))))))))))), ?_⟩
    walk_at "rd"
    refine ⟨l, sc, rfl, hS, fun H1 t pl pg ps st gs s1 ht M B bst hnew npl npg => ?_⟩
    refine ⟨t, _, rfl, SqT.of ht, rfl, _, _, rfl, _, _, rfl, _, _, rfl, rfl, ?_⟩
    walk_at "rd"
    refine ⟨l, sc, 22, rfl, s1.seq hS, by decide, ?_⟩
    walk_at "rd"
    refine ⟨_, 12, rfl, by omega, fun H2 pn ns s2 hpn hN hlen hz => ?_⟩
    have nz : ∀ j, j < 12 → 0 ≤ ns.getD j 0 ∧ ns.getD j 0 < 1000 := fun j hj => by
      rw [List.getD_eq_getElem?_getD, List.getElem?_eq_getElem (by omega)]
      exact hz _ (List.getElem_mem _)
    have nA : pn ∉ pg :: ps.map (·.1) := fun h => by
      rcases List.mem_cons.mp h with h | h
      · rw [h, M.hg] at hpn
        exact nomatch hpn
      · obtain ⟨p, hp, e⟩ := List.mem_map.mp h
        rw [← e, M.hr p hp] at hpn
        exact nomatch hpn
    have M2 := M.same s2
    clear hpn
    walk_at "rd"
    refine r_ixL (SqL.of hN) (at_int (by decide) (by omega)) ?_
    walk_at "rd"
    refine r_ixL (SqL.of hN) (at_int (by decide) (by omega)) ?_
    walk_at "rd"
    refine r_ixL (SqL.of hN) (at_int (by decide) (by omega)) ?_
    walk_at "rd"
    have g1 := emod_rng (ns.getD (10 : Int).toNat 0) (b := 4) (by decide)
    have g2 := emod_rng (ns.getD (10 : Int).toNat 0) (b := 2) (by decide)
    refine r_mul (.inl ⟨by omega, by omega⟩) ?_
    walk_at "rd"
    obtain ⟨n, en, n2⟩ : ∃ n : Nat, ns.getD (10 : Int).toNat 0 % 4 / 2 + ns.getD (10 : Int).toNat 0 % 2 * (ns.getD (10 : Int).toNat 0 % 4 / 2) = (n : Int) ∧ n ≤ 2 := by
      generalize ns.getD (10 : Int).toNat 0 = x at *
      rcases (show x % 2 = 0 ∨ x % 2 = 1 by omega) with h | h
      · rw [h, Int.zero_mul]
        exact ⟨(x % 4 / 2 + 0).toNat, by omega, by omega⟩
      · rw [h, Int.one_mul]
        exact ⟨(x % 4 / 2 + x % 4 / 2).toNat, by omega, by omega⟩
    rw [en]
    refine r_rng1' (by omega) (by omega) ?_
    rw [Int.toNat_natCast]
    refine for_range (lo := 0) (n := n) (fun i σ G => ∃ st' ps' gs' y5, σ = [some (.ref l), some (.ref pl), some (.int st'), some (.ref pg), some (.ref pn), y5, none, none, none, none] ∧ ps'.map (·.1) = ps.map (·.1) ∧ Keep (pg :: ps.map (·.1)) H2 G ∧ Made G pl ps' pg gs' ∧ Bds i ps' gs' ∧ st'.natAbs < 1000)
      ⟨st, ps, gs, none, rfl, rfl, fun _ _ _ z => z, M2, B, bst⟩ (fun i σ G hi hP => ?_) (fun σ G hP => ?_)
    · obtain ⟨st', ps', gs', y5, rfl, e1, k, m, b, bs⟩ := hP
      walk_at "rd"
      refine r_slL (SqL.of (k _ _ nA hN)) (fun l2 hl2 => ?_)
      rw [show (5 : Int) * (0 + (i : Int)) = ((5 * i : Nat) : Int) by omega, cut_drop, ← List.map_drop]
      have s3 := same_new (o := .lst ((ns.drop (5 * i)).map V.int)) hl2
      have nA2 : l2 ∉ pg :: ps'.map (·.1) := fun h => by
        rcases List.mem_cons.mp h with h | h
        · rw [h, m.hg] at hl2
          exact nomatch hl2
        · obtain ⟨p, hp, e⟩ := List.mem_map.mp h
          rw [← e, m.hr p hp] at hl2
          exact nomatch hl2
      walk_at "rd"
      refine ⟨pl, pg, l2, ps', st', gs', ns.drop (5 * i), i, rfl, m.same s3, b, by omega, bs, upd_same, by rw [List.length_drop]; omega, fun z hzz => hz z (List.mem_of_mem_drop hzz), nA2, fun G2 ps2 gs2 st2 e2 k2 m2 b2 bs2 => ?_⟩
      walk_at "rd"
      rw [e1] at k2
      exact ⟨st2, ps2, gs2, _, rfl, e2.trans e1, (k.same s3).trans k2, m2, b2, bs2⟩
    obtain ⟨st', ps', gs', y5, rfl, e1, k, m, b, bs⟩ := hP
    have L : Lists K G pl ps' pg gs' := m.lists b (by omega)
    clear k hN M2 e1
    have lr := refsI_len ps'
    walk_at "rd"
    refine ⟨⟨_, L.s⟩, fun D hDn => ?_⟩
    refine lc_list (xs := refsI ps') (fun j G3 => Same G G3 ∧ ∃ hs : List (Addr × List Int), G3 D = some (.lst (refsI hs)) ∧ hs.map (·.2) = (ps'.take j).map (·.2) ∧ ∀ p ∈ hs, G3 p.1 = some (.lst (p.2.map V.int)) ∧ p.1 ≠ D) ⟨same_new hDn, [], upd_same, rfl, fun p hp => (nomatch hp)⟩ (fun j G3 _ hP => hP.1.seq L.s) (fun j x G3 hx hP => ?_) (fun G3 hP => ?_)
    · obtain ⟨sG3, hs, hG3, e2, hhs⟩ := hP
      obtain ⟨p, hp, rfl⟩ := refsI_at hx
      refine ⟨rfl, r_yes (iteT ?_)⟩
      walk_at "rd"
      refine r_lstL (sG3.seq (L.r p (List.mem_of_getElem? hp)).1) (fun c hc => ?_)
      have s4 := same_new (o := .lst (p.2.map V.int)) hc
      have hcD : c ≠ D := fun e => by rw [e, hG3] at hc; exact nomatch hc
      refine ⟨refsI hs, s4 _ _ hG3, ?_, same_mut (sG3.trans s4) hDn, hs ++ [(c, p.2)], ?_, ?_, fun p' hp' => ?_⟩
      · have := congrArg List.length e2
        rw [List.length_map, List.length_map, List.length_take] at this
        have := L.n
        rw [refsI_len]
        omega
      · rw [upd_same]
        unfold refsI
        rw [List.map_append]
        rfl
      · rw [List.map_append, e2, List.take_add_one, hp, List.map_append]
        rfl
      · rcases List.mem_append.mp hp' with hp' | hp'
        · rw [upd_ne (hhs p' hp').2]
          exact ⟨s4 _ _ (hhs p' hp').1, (hhs p' hp').2⟩
        · rw [List.mem_singleton.mp hp', upd_ne hcD]
          exact ⟨upd_same, hcD⟩
    obtain ⟨sG3, hs, hG3, e2, hhs0⟩ := hP
    rw [lr, List.take_length] at e2
    have hhs : ∀ p ∈ hs, G3 p.1 = some (.lst (p.2.map V.int)) := fun p hp => (hhs0 p hp).1
    clear hhs0
    have lh : hs.length = ps'.length := by
      have := congrArg List.length e2
      rw [List.length_map, List.length_map] at this
      exact this
    walk_at "rd"
    refine r_lstL ((sG3.seq L.gq)) (fun ph hph => ?_)
    have s5 := same_new (o := .lst (gs'.map V.int)) hph
    have L4 : Lists K (upd G3 ph (.lst (gs'.map V.int))) D hs ph gs' := ⟨SqL.of (s5 _ _ hG3), fun p hp => by
      obtain ⟨p2, hp2, e⟩ := List.mem_map.mp (e2 ▸ List.mem_map_of_mem hp : p.2 ∈ ps'.map (·.2))
      have := L.r p2 hp2
      rw [e] at this
      exact ⟨SqL.of (s5 _ _ (hhs p hp)), this.2⟩, by rw [lh]; exact L.n, upd_same, L.b, L.l⟩
    have L5 := (L.same sG3).same s5
    clear hhs hG3 s5 hph L sG3 hDn m
    generalize upd G3 ph (.lst (gs'.map V.int)) = G4 at *
    with_reducible refine r_cutJ (fun σ G' => (∃ y5 y8 y9, σ = [some (.ref l), some (.ref pl), some (.int st'), some (.ref pg), some (.ref pn), y5, some (.ref D), some (.ref ph), y8, y9]) ∧ Same G4 G') (fun σ G' hJ => ?_) (fun key => ?_)
    · obtain ⟨⟨y5, y8, y9, rfl⟩, s6⟩ := hJ
      have L6 := L4.same s6
      have L7 := L5.same s6
      walk_at "rd"
      refine r_eqD (dp_lists L6.s fun p hp => (L6.r p hp).1) (dp_lists L7.s fun p hp => (L7.r p hp).1) (shaped_lists _) (shaped_lists _) ?_
      rw [e2, eqv_self (shaped_lists _)]
      walk_at "rd"
      refine r_eqD (dp_ints L6.gq) (dp_ints L7.gq) (shaped_ints _) (shaped_ints _) ?_
      rw [eqv_self (shaped_ints _)]
      exact q _
    walk_at "rd"
    refine ⟨pl, pg, ps', st', gs', rfl, L5, fun bb G5 s6 hb => ?_⟩
    have L6 := L4.same s6
    have L7 := L5.same s6
    cases bb with
    | false =>
      walk_at "rd"
      refine ⟨D, ph, hs, st', gs', rfl, L6, by omega, fun hk => ?_, fun G6 s7 => ?_⟩
      · rw [e2] at hk
        exact nomatch hb.mpr hk
      exact ⟨_, rfl, iteNT (r_next (key _ _ ⟨⟨_, _, _, rfl⟩, s6.trans s7⟩))⟩
    | true =>
      have hk := hb.mp rfl
      have hgs : okSt ps'.length gs' := by
        have := hk.2.2.2
        rw [List.length_map] at this
        exact this
      clear L4 L5
      walk_at "rd"
      refine ⟨⟨_, L7.s⟩, fun D2 hD2 => ?_⟩
      refine lc_list (xs := refsI ps') (fun j G3 => Same G5 G3 ∧ ∃ vs : List V, G3 D2 = some (.lst vs) ∧ DtAll K G3 vs ((ps'.take j).map fun p => rowI p.2)) ⟨same_new hD2, [], upd_same, .nil⟩ (fun j G3 _ hP => hP.1.seq L7.s) (fun j x G3 hx hP => ?_) (fun G3 hP => ?_)
      · obtain ⟨sG3, vs, hG3, hdt⟩ := hP
        obtain ⟨p, hp, rfl⟩ := refsI_at hx
        have hj := (List.getElem?_eq_some_iff.mp hp).1
        refine ⟨rfl, r_yes (iteT ?_)⟩
        walk_at "rd"
        refine r_tupL (sG3.seq (L7.r p (List.mem_of_getElem? hp)).1) (fun t ht => ?_)
        have s4 := same_new (o := .tup (p.2.map V.int)) ht
        refine ⟨vs, s4 _ _ hG3, ?_, same_mut (sG3.trans s4) hD2, vs ++ [.ref t], upd_same, ?_⟩
        · have := hdt.len
          have := L7.n
          rw [List.length_map, List.length_take] at *
          omega
        · rw [List.take_add_one, hp, List.map_append]
          have sT : SameT (upd G3 t (.tup (p.2.map V.int))) (upd (upd G3 t (.tup (p.2.map V.int))) D2 (.lst (vs ++ [.ref t]))) := SameT.lst (s4 _ _ hG3)
          exact (hdt.k ((sT_of s4).trans sT)).snoc (.tup (sT.sq (SqT.of upd_same)) (DtAll.map (fun i => .int i) p.2))
      · obtain ⟨sG3, vs, hG3, hdt⟩ := hP
        rw [lr, List.take_length] at hdt
        walk_at "rd"
        refine r_tupL (SqL.of hG3) (fun ts hts => ?_)
        have s4 := sG3.trans (same_new (o := .tup vs) hts)
        have hdt4 := hdt.k (sT_of (same_new (o := .tup vs) hts))
        have hts4 : (upd G3 ts (.tup vs)) ts = some (.tup vs) := upd_same
        clear hG3 hdt hts sG3
        generalize upd G3 ts (.tup vs) = G8 at *
        walk_at "rd"
        refine ⟨pg, gs', rfl, s4.seq L7.gq, by have := L7.l; omega, fun p c0 hc0 hp => ?_⟩
        walk_at "rd"
        have := L7.l
        refine ⟨p, _, c0, rfl, upd_same, by omega, fun ns2 p2 pw hm hl hp2 => ?_⟩
        rw [good_tup hgs pw hm]
        walk_at "rd"
        refine r_tupL (SqL.of upd_same) (fun t2 ht2 => ?_)
        walk_at "rd"
        refine ⟨ln3, fun t ht => ?_⟩
        have s5 := same_new (o := SetO w p (fun j => decide (j ∈ gs')) c0) hp
        have s8 := same_new (o := .lst ((goodOf ps'.length gs').map iV)) hp2
        have s9 := same_new (o := .tup ((goodOf ps'.length gs').map iV)) ht2
        have s10 := same_new (o := .tup [V.ref ts, V.int st', V.ref t2]) ht
        have h9 := s10 _ _ (upd_same (H := upd (upd G8 p (SetO w p (fun j => decide (j ∈ gs')) c0)) p2 (.lst ((goodOf ps'.length gs').map iV))) (a := t2) (o := .tup ((goodOf ps'.length gs').map iV)))
        have sA := s5.trans (s8.trans (s9.trans s10))
        have hdue : Dt K (upd (upd (upd (upd G8 p (SetO w p (fun j => decide (j ∈ gs')) c0)) p2 (.lst ((goodOf ps'.length gs').map iV))) t2 (.tup ((goodOf ps'.length gs').map iV))) t (.tup [V.ref ts, V.int st', V.ref t2])) (.ref t) (macI (ps'.map (·.2)) st' (goodOf ps'.length gs')) := by
          unfold macI
          rw [List.map_map]
          exact .tup (SqT.of upd_same) (.cons (.tup (SqT.of (sA _ _ hts4)) (hdt4.k (sT_of sA))) (.cons (.int st') (.cons (.tup (SqT.of h9) (ofNats _)) .nil)))
        have sB := s4.trans sA
        clear s5 s8 s9 s10 h9 sA hdt4 hts4 hp hp2 ht2 ht s4
        generalize upd (upd (upd (upd G8 p (SetO w p (fun j => decide (j ∈ gs')) c0)) p2 (.lst ((goodOf ps'.length gs').map iV))) t2 (.tup ((goodOf ps'.length gs').map iV))) t (.tup [V.ref ts, V.int st', V.ref t2]) = G9 at *
        walk_at "rd"
        refine r_callS ?_
        walk_at "rd"
        refine ⟨D, ph, hs, st', gs', rfl, L6.same sB, by omega, fun _ G10 v s11 hv => ?_, fun hn => absurd (by rw [e2]; exact hk) hn⟩
        rw [e2, lh] at hv
        walk_at "rd"
        refine ⟨v, .ref t, _, rfl, hv.dp, (hdue.k (sT_of s11)).dp, fits_mac (by rw [List.length_map]; exact L7.n) (fun r hr => ?_) (Nat.le_trans normL_len L7.n), ?_⟩
        · obtain ⟨p, hp, rfl⟩ := List.mem_map.mp hr
          exact (L7.r p hp).2.1
        exact ⟨_, rfl, iteNT (r_next (key _ _ ⟨⟨_, _, _, rfl⟩, s6.trans (sB.trans s11)⟩))⟩
end

abbrev dd (x : Str) (i : Nat) : He.DefD := ⟨(x, none), x, x, defArgs (topS i), defBody (topS i), defScope (topS i), [], []⟩
def fnl : List He.DefD := [dd "make_machine" 7, dd "check_shape" 8, dd "check_states" 9, dd "_law_cell" 11, dd "_law_numbers" 12, dd "_law_same" 13, dd "_law_drawn" 14, dd "_law_spoils" 15, dd "_law_is_good" 16, dd "_law_refused" 17, dd "law" 18]
def fal : List He.Fa := [.glo "make_machine", .glo "check_shape", .glo "check_states", .glo "_law_cell", .glo "_law_numbers", .glo "_law_same", .glo "_law_drawn", .glo "_law_spoils", .glo "_law_is_good", .glo "_law_refused", .glo "law", .free "ValueError", .free "bool", .free "enumerate", .free "int", .free "isinstance", .free "len", .free "list", .free "max", .free "range", .free "set", .free "sorted", .free "str", .free "tuple", .str "LETTERS" "abcd", .int "MOST_STATES" 40, .glo "MachineError", .glo "InvalidMachine", .glo "InvalidEdit", .exc "InvalidMachine", .exm "InvalidMachine" "InvalidMachine" true]
def tfl : List He.Defn := []
def exB (K : PySem.W.Frag) : Bool := decide (((tfl.map (He.cT K)).map (·.2)).Nodup) && (excCB K (He.ga K "InvalidMachine") && (decide (PySem.W.kitOne K (.ref (He.ga K "InvalidMachine")) (.ref (He.ga K "MachineError")) = some true) && (decide (PySem.W.kitOne K (.ref (He.ga K "InvalidMachine")) (.type "ValueError") = some true) && (decide (PySem.W.kitOne K (.ref (He.ga K "InvalidMachine")) (.ref (He.ga K "InvalidEdit")) = some false)))))
abbrev R : PySem.W.OpenRow := PySem.W.OpenLaw.row PySem.Challenge.rw_turnsandthrows_k00_make_machine
abbrev hk : PySem.W.Hook := He.hookX 8 fal fnl [] tfl exB
def ob (s : PySem.W.SharedT) : He.AlX := He.obsX 8 fal fnl [] tfl exB (HandSHeadRun.getT s)
theorem ob_eq (s : PySem.W.SharedT) : ob s = hk.obs s.abs := He.obsX_eq (HandSHeadRun.getT_eq s)
abbrev names0 : List Str := ["__name__", "MachineError", "InvalidMachine", "InvalidEdit", "LETTERS", "MOST_STATES", "make_machine", "check_shape", "check_states", "_law_cell", "_law_numbers", "_law_same", "_law_drawn", "_law_spoils", "_law_is_good", "_law_refused"]
abbrev names : List Str := names0
theorem run (w : World) : HandSHeadRun.RunEq R (PySem.W.view R.prog [18]) hk ob 4000 names w := by
  intro os
  kernel_rfl
theorem facts {w : World} {K : PySem.W.Frag} {h : Heap} {mg : Str → Option Value} {f : Addr} (X : K.In h) (G : h.Ns mainGlobals mg) (hfa : mg ("law" : Str) = some (.ref f)) (c : He.SaysX fal fnl [] tfl exB w h K) : LamX.LawAtS PySem.Challenge.rw_turnsandthrows_k00_make_machine w K CX0 5 63 "script" mg f h := by
  obtain ⟨fd_make_machine, D_make_machine⟩ := c.t.d.def_ 0 (d := dd "make_machine" 7) rfl
  have F_make_machine : Fun K "make_machine" "make_machine" s_make_machine (He.fAd K ("make_machine", none)) fd_make_machine := fun_of_D (st := s_make_machine) D_make_machine
  have b_make_machine := FunD.bindsN (ps := ["steps", "start", "good"]) D_make_machine fun _ _ _ _ _ _ us hl => match us, hl with | [_, _, _], _ => rfl
  obtain ⟨fd_check_shape, D_check_shape⟩ := c.t.d.def_ 1 (d := dd "check_shape" 8) rfl
  have F_check_shape : Fun K "check_shape" "check_shape" s_check_shape (He.fAd K ("check_shape", none)) fd_check_shape := fun_of_D (st := s_check_shape) D_check_shape
  have b_check_shape := FunD.bindsN (ps := ["steps"]) D_check_shape fun _ _ _ _ _ _ us hl => match us, hl with | [_], _ => rfl
  obtain ⟨fd_check_states, D_check_states⟩ := c.t.d.def_ 2 (d := dd "check_states" 9) rfl
  have F_check_states : Fun K "check_states" "check_states" s_check_states (He.fAd K ("check_states", none)) fd_check_states := fun_of_D (st := s_check_states) D_check_states
  have b_check_states := FunD.bindsN (ps := ["states", "count"]) D_check_states fun _ _ _ _ _ _ us hl => match us, hl with | [_, _], _ => rfl
  obtain ⟨fd_l_cell, D_l_cell⟩ := c.t.d.def_ 3 (d := dd "_law_cell" 11) rfl
  have F_l_cell : Fun K "_law_cell" "_law_cell" s_l_cell (He.fAd K ("_law_cell", none)) fd_l_cell := fun_of_D (st := s_l_cell) D_l_cell
  have b_l_cell := FunD.bindsN (ps := ["script", "k"]) D_l_cell fun _ _ _ _ _ _ us hl => match us, hl with | [_, _], _ => rfl
  obtain ⟨fd_l_numbers, D_l_numbers⟩ := c.t.d.def_ 4 (d := dd "_law_numbers" 12) rfl
  have F_l_numbers : Fun K "_law_numbers" "_law_numbers" s_l_numbers (He.fAd K ("_law_numbers", none)) fd_l_numbers := fun_of_D (st := s_l_numbers) D_l_numbers
  have b_l_numbers := FunD.bindsN (ps := ["cell", "count"]) D_l_numbers fun _ _ _ _ _ _ us hl => match us, hl with | [_, _], _ => rfl
  obtain ⟨fd_l_same, D_l_same⟩ := c.t.d.def_ 5 (d := dd "_law_same" 13) rfl
  have F_l_same : Fun K "_law_same" "_law_same" s_l_same (He.fAd K ("_law_same", none)) fd_l_same := fun_of_D (st := s_l_same) D_l_same
  have b_l_same := FunD.bindsN (ps := ["actual", "due"]) D_l_same fun _ _ _ _ _ _ us hl => match us, hl with | [_, _], _ => rfl
  obtain ⟨fd_l_drawn, D_l_drawn⟩ := c.t.d.def_ 6 (d := dd "_law_drawn" 14) rfl
  have F_l_drawn : Fun K "_law_drawn" "_law_drawn" s_l_drawn (He.fAd K ("_law_drawn", none)) fd_l_drawn := fun_of_D (st := s_l_drawn) D_l_drawn
  have b_l_drawn := FunD.bindsN (ps := ["script"]) D_l_drawn fun _ _ _ _ _ _ us hl => match us, hl with | [_], _ => rfl
  obtain ⟨fd_l_spoils, D_l_spoils⟩ := c.t.d.def_ 7 (d := dd "_law_spoils" 15) rfl
  have F_l_spoils : Fun K "_law_spoils" "_law_spoils" s_l_spoils (He.fAd K ("_law_spoils", none)) fd_l_spoils := fun_of_D (st := s_l_spoils) D_l_spoils
  have b_l_spoils := FunD.bindsN (ps := ["steps", "start", "good", "numbers"]) D_l_spoils fun _ _ _ _ _ _ us hl => match us, hl with | [_, _, _, _], _ => rfl
  obtain ⟨fd_l_is_good, D_l_is_good⟩ := c.t.d.def_ 8 (d := dd "_law_is_good" 16) rfl
  have F_l_is_good : Fun K "_law_is_good" "_law_is_good" s_l_is_good (He.fAd K ("_law_is_good", none)) fd_l_is_good := fun_of_D (st := s_l_is_good) D_l_is_good
  have b_l_is_good := FunD.bindsN (ps := ["steps", "start", "good"]) D_l_is_good fun _ _ _ _ _ _ us hl => match us, hl with | [_, _, _], _ => rfl
  obtain ⟨fd_l_refused, D_l_refused⟩ := c.t.d.def_ 9 (d := dd "_law_refused" 17) rfl
  have F_l_refused : Fun K "_law_refused" "_law_refused" s_l_refused (He.fAd K ("_law_refused", none)) fd_l_refused := fun_of_D (st := s_l_refused) D_l_refused
  have b_l_refused := FunD.bindsN (ps := ["steps", "start", "good"]) D_l_refused fun _ _ _ _ _ _ us hl => match us, hl with | [_, _, _], _ => rfl
  obtain ⟨fd_law, D_law⟩ := c.t.d.def_ 10 (d := dd "law" 18) rfl
  have F_law : Fun K "law" "law" s_law (He.fAd K ("law", none)) fd_law := fun_of_D (st := s_law) D_law
  have b_law := FunD.bindsN (ps := ["script"]) D_law fun _ _ _ _ _ _ us hl => match us, hl with | [_], _ => rfl
  have e := hfa.symm.trans (He.glo_ok X G (c.t.d.fact 10 (f := .glo "law") rfl))
  cases e
  have bA := FunD.bindsA (ps := ["script"]) D_law fun _ _ _ _ _ _ us hl => match us, hl with | [_], _ => rfl
  have ce := c.more
  unfold exB at ce
  obtain ⟨e0, ce⟩ := He.ba ce
  obtain ⟨e1, ce⟩ := He.ba ce
  obtain ⟨e2, ce⟩ := He.ba ce
  obtain ⟨e3, ce⟩ := He.ba ce
  have e4 := ce
  have T : Txt K mg ⟨He.fAd K ("make_machine", none), fd_make_machine, He.fAd K ("check_shape", none), fd_check_shape, He.fAd K ("check_states", none), fd_check_states, He.fAd K ("_law_cell", none), fd_l_cell, He.fAd K ("_law_numbers", none), fd_l_numbers, He.fAd K ("_law_same", none), fd_l_same, He.fAd K ("_law_drawn", none), fd_l_drawn, He.fAd K ("_law_spoils", none), fd_l_spoils, He.fAd K ("_law_is_good", none), fd_l_is_good, He.fAd K ("_law_refused", none), fd_l_refused, He.fAd K ("law", none), fd_law, He.ga K "MachineError", He.ga K "InvalidMachine", He.ga K "InvalidEdit"⟩ := ⟨F_make_machine, b_make_machine, He.glo_ok X G (c.t.d.fact 0 (f := .glo "make_machine") rfl), F_check_shape, b_check_shape, He.glo_ok X G (c.t.d.fact 1 (f := .glo "check_shape") rfl), F_check_states, b_check_states, He.glo_ok X G (c.t.d.fact 2 (f := .glo "check_states") rfl), F_l_cell, b_l_cell, He.glo_ok X G (c.t.d.fact 3 (f := .glo "_law_cell") rfl), F_l_numbers, b_l_numbers, He.glo_ok X G (c.t.d.fact 4 (f := .glo "_law_numbers") rfl), F_l_same, b_l_same, He.glo_ok X G (c.t.d.fact 5 (f := .glo "_law_same") rfl), F_l_drawn, b_l_drawn, He.glo_ok X G (c.t.d.fact 6 (f := .glo "_law_drawn") rfl), F_l_spoils, b_l_spoils, He.glo_ok X G (c.t.d.fact 7 (f := .glo "_law_spoils") rfl), F_l_is_good, b_l_is_good, He.glo_ok X G (c.t.d.fact 8 (f := .glo "_law_is_good") rfl), F_l_refused, b_l_refused, He.glo_ok X G (c.t.d.fact 9 (f := .glo "_law_refused") rfl), F_law, b_law, He.glo_ok X G (c.t.d.fact 10 (f := .glo "law") rfl), He.free_ok X G (c.t.d.fact 11 (f := .free "ValueError") rfl), He.free_ok X G (c.t.d.fact 12 (f := .free "bool") rfl), He.free_ok X G (c.t.d.fact 13 (f := .free "enumerate") rfl), He.free_ok X G (c.t.d.fact 14 (f := .free "int") rfl), He.free_ok X G (c.t.d.fact 15 (f := .free "isinstance") rfl), He.free_ok X G (c.t.d.fact 16 (f := .free "len") rfl), He.free_ok X G (c.t.d.fact 17 (f := .free "list") rfl), He.free_ok X G (c.t.d.fact 18 (f := .free "max") rfl), He.free_ok X G (c.t.d.fact 19 (f := .free "range") rfl), He.free_ok X G (c.t.d.fact 20 (f := .free "set") rfl), He.free_ok X G (c.t.d.fact 21 (f := .free "sorted") rfl), He.free_ok X G (c.t.d.fact 22 (f := .free "str") rfl), He.free_ok X G (c.t.d.fact 23 (f := .free "tuple") rfl), He.str_ok X G (c.t.d.fact 24 (f := .str "LETTERS" "abcd") rfl), He.int_ok X G (c.t.d.fact 25 (f := .int "MOST_STATES" 40) rfl), He.glo_ok X G (c.t.d.fact 26 (f := .glo "MachineError") rfl), He.glo_ok X G (c.t.d.fact 27 (f := .glo "InvalidMachine") rfl), He.glo_ok X G (c.t.d.fact 28 (f := .glo "InvalidEdit") rfl), ⟨He.glo_ok X G (c.t.d.fact 27 (f := .glo "InvalidMachine") rfl), (He.exc_ok (c.t.d.fact 29 (f := .exc "InvalidMachine") rfl)).1, (He.exc_ok (c.t.d.fact 29 (f := .exc "InvalidMachine") rfl)).2.1, (He.exc_ok (c.t.d.fact 29 (f := .exc "InvalidMachine") rfl)).2.2.1, (He.exc_ok (c.t.d.fact 29 (f := .exc "InvalidMachine") rfl)).2.2.2, excCB_ok e1⟩, He.exm_ok (c.t.d.fact 30 (f := .exm "InvalidMachine" "InvalidMachine" true) rfl), of_decide_eq_true e2, of_decide_eq_true e3, of_decide_eq_true e4⟩
  refine ⟨fd_law, tfl.map (He.cT K), sp_law K ⟨He.fAd K ("make_machine", none), fd_make_machine, He.fAd K ("check_shape", none), fd_check_shape, He.fAd K ("check_states", none), fd_check_states, He.fAd K ("_law_cell", none), fd_l_cell, He.fAd K ("_law_numbers", none), fd_l_numbers, He.fAd K ("_law_same", none), fd_l_same, He.fAd K ("_law_drawn", none), fd_l_drawn, He.fAd K ("_law_spoils", none), fd_l_spoils, He.fAd K ("_law_is_good", none), fd_l_is_good, He.fAd K ("_law_refused", none), fd_l_refused, He.fAd K ("law", none), fd_law, He.ga K "MachineError", He.ga K "InvalidMachine", He.ga K "InvalidEdit"⟩, fun p hp => ?_, fun p hp => ?_, fun p hp => ?_, fun s u => bA s [u] rfl, fun H a ns hl _ hT hS => ?_, fun base hK hns hB => ok_law T⟩
  · obtain ⟨x, hx, rfl⟩ := List.mem_map.mp hp
    exact c.empty x hx
  · obtain ⟨x, hx, rfl⟩ := List.mem_map.mp hp
    exact c.out x hx
  · obtain ⟨x, hx, rfl⟩ := List.mem_map.mp hp
    exact PySem.W.codeHd_of_K X (c.hd x hx)
  · refine ⟨a, ns, rfl, hS, hl, tabs_nil fun p hp => ?_, fun _ => rfl⟩
    exact nomatch hp
end L00
open PySem PySem.W PySem.Calls PyProof.Rows
set_option maxHeartbeats 0 in
theorem PySem.Challenge.cw_turnsandthrows_k00_make_machine_holds : PySem.Challenge.rw_turnsandthrows_k00_make_machine.Holds := by
  w_on; o_law
  refine HandSHeadRun.head_any (r := OpenLaw.row PySem.Challenge.rw_turnsandthrows_k00_make_machine) (q := view (OpenLaw.row PySem.Challenge.rw_turnsandthrows_k00_make_machine).prog [18]) (H := L00.hk) (ob := L00.ob) (M := 4000) (loose := L00.names) (d := HandSHeadRun.topDef (OpenLaw.row PySem.Challenge.rw_turnsandthrows_k00_make_machine).prog 18) (kwd := []) L00.ob_eq (by kernel_rfl) (fun s => by kernel_rfl) L00.run (by kernel_rfl) (by kernel_rfl) (by kernel_rfl) (by rfl) (by first | assumption | decide +kernel) (by decide +kernel) ⟨rfl, rfl, rfl, rfl, rfl, by decide +kernel⟩ ?hw ?hc
  case hw => w_witness2
  case hc =>
    refine LamX.walk_ofTsE (l := PySem.Challenge.rw_turnsandthrows_k00_make_machine) (n := 63) (k := 5) (x := "script") (CX := fun _ => L2.CX0) rfl (by decide) (by kernel_rfl) ⟨rfl, by decide, by decide⟩ ?F (fun _ _ _ _ _ z => z)
    intro w mg fa h Y G hmg0
    obtain ⟨K, KX, c⟩ := Y
    have hmg : mg ("law" : PySem.Str) = some (.ref fa) := by
      have e : (HandSHeadRun.topDef (OpenLaw.row PySem.Challenge.rw_turnsandthrows_k00_make_machine).prog 18).name = ("law" : PySem.Str) := by kernel_rfl
      rw [← e]
      exact hmg0
    exact ⟨K, KX, L00.facts KX G hmg c⟩

