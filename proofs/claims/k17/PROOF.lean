import PyProof.Rows.All
import Wide.All
import OpenK.AllK
import Wide.FinOn
import HandS.ForMost
import HandS.IsInst
import KE.GoesMore
import PyProof.Draws
import PyProof.EnumMake
import HandS.Iter
import HandS.Gcd
import HandS.Strs
import KE.KSortTupG
import KE.KDictDisplayH
import KE.KDictSum
import HandS.Keys
import HandS.Conv
import HandS.Dict
import HandS.More
import KE.KMathG
import HandS.TupLen
import PyProof.StrBlock2
import HandS.Replace
import PySem.Challenge.RW_turnsandthrows_k17_generated
set_option Elab.async false
set_option linter.all false
set_option maxRecDepth 100000
set_option maxHeartbeats 8000000
set_option Elab.async false
set_option linter.all false
set_option maxRecDepth 100000
namespace G
open PySem PySem.Spec PyProof.Rows L2

/-! ### readings, step by step -/
section
variable {σ : L2.St} {H : Hp} {Q : VK} {QB : Bool → Hp → Prop} {QA : List V → Hp → Prop} {D : Ends} {K : PySem.W.Frag} {te ta tb : TE} {t u : TS} {c c2 : TT} {i : Nat} {v x y : V}
theorem r_seq (h : t { D with nx := u D } σ H) : tSeq t u D σ H := h
theorem r_set (h : te σ H fun x H1 => D.nx (σ.set i (some x)) H1) : tAsg te (gName i) D σ H := h
theorem r_asg {g : TG} (h : te σ H fun x H1 => g x σ H1 D.nx) : tAsg te g D σ H := h
theorem r_drop (h : te σ H fun _ H1 => D.nx σ H1) : tDrop te D σ H := h
theorem r_ret (h : te σ H D.rt) : tRet te D σ H := h
theorem r_retN (h : D.rt .non H) : tRetN D σ H := h
theorem r_next (h : D.nx σ H) : tNext D σ H := h
theorem r_break (h : D.bk σ H) : tBreak D σ H := h
theorem r_cont (h : D.ct σ H) : tCont D σ H := h
theorem r_yes (h : QB true H) : tYes σ H QB := h
theorem r_if (h : c σ H fun b H1 => if b = true then t D σ H1 else u D σ H1) : tIfS c t u D σ H := h
theorem r_ifx (h : c σ H fun d H1 => if d = true then ta σ H1 Q else tb σ H1 Q) : tIf c ta tb σ H Q := h
theorem r_var (h : σ[i]? = some (some v)) (q : Q v H) : tVar i σ H Q := ⟨v, h, q⟩
theorem r_c (q : Q v H) : tC v σ H Q := q
theorem r_op {r : R2} (h : ta σ H fun x H1 => tb σ H1 fun y H2 => r x y H2 Q) : tOp r ta tb σ H Q := h
theorem r_un {r : V → Hp → VK → Prop} (h : ta σ H fun x H1 => r x H1 Q) : tUn r ta σ H Q := h
theorem r_cb {r : List V → Hp → VK → Prop} {t : TA} (h : t σ H fun vs H1 => r vs H1 Q) : tCB r t σ H Q := h
theorem r_cons {tr : TA} (h : te σ H fun x H1 => tr σ H1 fun xs H2 => QA (x :: xs) H2) : tCons te tr σ H QA := h
theorem r_nil (h : QA [] H) : tNil σ H QA := h
theorem r_call {sp : Sp} {dvs : List V} {E : XK} {t : TA} (h : t σ H fun vs H1 => sp (vs ++ dvs) H1 Q E) : tCall sp dvs E t σ H Q := h
theorem r_test (h : te σ H fun x H' => ∃ k, x = .bl k ∧ QB k H') : tTest te σ H QB := h
theorem r_tb (h : te σ H fun x H' => ∃ k, x = .bl k ∧ QB k H') : tB te σ H QB := h
theorem r_bl {b : Bool} {C : Bool → Prop} (h : C b) : ∃ k, V.bl b = .bl k ∧ C k := ⟨b, rfl, h⟩
theorem r_and (h : c σ H fun b H1 => if b = true then c2 σ H1 QB else QB false H1) : tAnd c c2 σ H QB := h
theorem r_or (h : c σ H fun b H1 => if b = true then QB true H1 else c2 σ H1 QB) : tOr c c2 σ H QB := h
theorem r_not (h : c σ H fun b H1 => QB (!b) H1) : tNot c σ H QB := h
theorem r_andV (h : ta σ H fun x H1 => ∃ c, x = .bl c ∧ if c = true then tb σ H1 Q else Q (.bl false) H1) : tAndV ta tb σ H Q := h
theorem r_orV (h : ta σ H fun x H1 => ∃ c, x = .bl c ∧ if c = true then Q (.bl true) H1 else tb σ H1 Q) : tOrV ta tb σ H Q := h
theorem r_notV (h : ta σ H fun x H1 => ∃ c, x = .bl c ∧ Q (.bl (!c)) H1) : tNotV ta σ H Q := h
theorem r_tup {t : TA} (h : t σ H fun xs H1 => xs.length ≤ sizeLine ∧ ∀ p, H1 p = none → Q (.ref p) (upd H1 p (.tup xs))) : tTup t σ H Q := h
theorem r_lst {t : TA} (h : t σ H fun xs H1 => xs.length ≤ sizeLine ∧ ∀ p, H1 p = none → Q (.ref p) (upd H1 p (.lst xs))) : tLst t σ H Q := h
theorem r_I0 {g : Int → Int → V} {i j : Int} (h : Q (g i j) H) : rI0 g (.int i) (.int j) H Q := ⟨i, j, rfl, rfl, h⟩
theorem r_I {C : Int → Int → Prop} {g : Int → Int → V} {i j : Int} (hc : C i j) (h : Q (g i j) H) : rI C g (.int i) (.int j) H Q := ⟨i, j, rfl, rfl, hc, h⟩
theorem r_U {g : Int → V} {i : Int} (h : Q (g i) H) : rU g (.int i) H Q := ⟨i, rfl, h⟩
theorem r_eqI {i j : Int} (h : Q (.bl (decide (i = j))) H) : rEq (.int i) (.int j) H Q := by
  refine ⟨rfl, ?_⟩
  have e : decide (V.int i = V.int j) = decide (i = j) := by simp
  rw [e]; exact h
theorem r_neI {i j : Int} (h : Q (.bl (!decide (i = j))) H) : rNe (.int i) (.int j) H Q := by
  refine ⟨rfl, ?_⟩
  have e : decide (V.int i = V.int j) = decide (i = j) := by simp
  rw [e]; exact h
theorem r_eqS {i j : Str} (h : Q (.bl (decide (i = j))) H) : rEq (.str i) (.str j) H Q := by
  refine ⟨rfl, ?_⟩
  have e : decide (V.str i = V.str j) = decide (i = j) := by simp
  rw [e]; exact h
theorem r_neS {i j : Str} (h : Q (.bl (!decide (i = j))) H) : rNe (.str i) (.str j) H Q := by
  refine ⟨rfl, ?_⟩
  have e : decide (V.str i = V.str j) = decide (i = j) := by simp
  rw [e]; exact h
theorem r_eqB {i j : Bool} (h : Q (.bl (decide (i = j))) H) : rEq (.bl i) (.bl j) H Q := by
  refine ⟨rfl, ?_⟩
  have e : decide (V.bl i = V.bl j) = decide (i = j) := by simp
  rw [e]; exact h
theorem r_neB {i j : Bool} (h : Q (.bl (!decide (i = j))) H) : rNe (.bl i) (.bl j) H Q := by
  refine ⟨rfl, ?_⟩
  have e : decide (V.bl i = V.bl j) = decide (i = j) := by simp
  rw [e]; exact h
theorem r_iteD {p A B : Prop} [Decidable p] (h1 : p → A) (h2 : ¬ p → B) : if decide p = true then A else B := ite2 (fun e => h1 (of_decide_eq_true e)) fun e => h2 fun q => e (decide_eq_true q)
theorem r_iteN {p A B : Prop} [Decidable p] (h1 : ¬ p → A) (h2 : p → B) : if (!decide p) = true then A else B := by
  by_cases h : p
  · rw [decide_eq_true h]; exact iteF (h2 h)
  · rw [decide_eq_false h]; exact iteT (h1 h)
theorem r_ixL {p : Addr} {xs : List V} {i : Int} (h : SqL K H p xs) (a : atI xs i = some v) (q : Q v H) : rIxL K (.ref p) (.int i) H Q := ⟨p, xs, i, v, rfl, rfl, h, a, q⟩
theorem r_ixT {p : Addr} {xs : List V} {i : Int} (h : SqT K H p xs) (a : atI xs i = some v) (q : Q v H) : rIxT K (.ref p) (.int i) H Q := ⟨p, xs, i, v, rfl, rfl, h, a, q⟩
theorem r_ixS {z : Str} {i : Int} {c : Nat} (hz : z.length ≤ sizeLine) (a : atI z.cps.toList i = some c) (q : Q (.str ⟨#[c]⟩) H) : rIxS (.str z) (.int i) H Q := ⟨z, i, c, rfl, rfl, hz, a, q⟩
/-! named readings for what the layer says by a bare fun -/
def rInt1 : List V → Hp → VK → Prop := fun xs H Q => (∃ i, xs = [.int i] ∧ Q (.int i) H) ∨ ∃ k, xs = [.bl k] ∧ Q (.int (if k then 1 else 0)) H
theorem call_int1' {X : Cx} : CallR X (.type "int") rInt1 := call_int1
theorem r_int1 {i : Int} (q : Q (.int i) H) : rInt1 [.int i] H Q := .inl ⟨i, rfl, q⟩
def rLenQ (K : PySem.W.Frag) : List V → Hp → VK → Prop := fun xs H Q => ∃ p ys, xs = [.ref p] ∧ (SqL K H p ys ∨ SqT K H p ys) ∧ Q (.int ys.length) H
theorem call_lenQ {X : Cx} : CallR X (.builtin "len") (rLenQ X.K) := call_len_seq
theorem r_lenL {p : Addr} {ys : List V} (h : SqL K H p ys) (q : Q (.int ys.length) H) : rLenQ K [.ref p] H Q := ⟨p, ys, rfl, .inl h, q⟩
theorem r_lenT {p : Addr} {ys : List V} (h : SqT K H p ys) (q : Q (.int ys.length) H) : rLenQ K [.ref p] H Q := ⟨p, ys, rfl, .inr h, q⟩
def rLenS1 : List V → Hp → VK → Prop := fun xs H Q => ∃ z, xs = [.str z] ∧ z.length ≤ sizeLine ∧ Q (.int z.length) H
theorem call_lenS1 {X : Cx} : CallR X (.builtin "len") rLenS1 := call_len_str
theorem r_lenS {z : Str} (h : z.length ≤ sizeLine) (q : Q (.int z.length) H) : rLenS1 [.str z] H Q := ⟨z, rfl, h, q⟩
def rAddS1 : R2 := fun x y H Q => ∃ i j, x = .str i ∧ y = .str j ∧ i.length + j.length ≤ sizeLine ∧ Q (.str (i ++ j)) H
theorem op_addS {X : Cx} : OpR X (binaryOp .Add) rAddS1 := op_add_str
theorem r_addS {i j : Str} (h : i.length + j.length ≤ sizeLine) (q : Q (.str (i ++ j)) H) : rAddS1 (.str i) (.str j) H Q := ⟨i, j, rfl, rfl, h, q⟩
def rIsN1 : R2 := fun x y H Q => y = .non ∧ Q (.bl (decide (x = .non))) H
def rNotN1 : R2 := fun x y H Q => y = .non ∧ Q (.bl (!decide (x = .non))) H
theorem op_isN1 {X : Cx} : OpR X (compareOp .Is) rIsN1 := op_isN
theorem op_notN1 {X : Cx} : OpR X (compareOp .IsNot) rNotN1 := op_notN
theorem r_isN (q : Q (.bl (decide (x = .non))) H) : rIsN1 x .non H Q := ⟨rfl, q⟩
theorem r_notN (q : Q (.bl (!decide (x = .non))) H) : rNotN1 x .non H Q := ⟨rfl, q⟩
def rTupOf (K : PySem.W.Frag) : List V → Hp → VK → Prop := fun xs H Q => ∃ p ys, xs = [.ref p] ∧ ((SqL K H p ys ∧ ∀ l, H l = none → Q (.ref l) (upd H l (.tup ys))) ∨ (SqT K H p ys ∧ Q (.ref p) H))
theorem call_tupOf {X : Cx} : CallR X (.type "tuple") (rTupOf X.K) := call_tuple_of
theorem r_tupL {p : Addr} {ys : List V} (h : SqL K H p ys) (q : ∀ l, H l = none → Q (.ref l) (upd H l (.tup ys))) : rTupOf K [.ref p] H Q := ⟨p, ys, rfl, .inl ⟨h, q⟩⟩
def rLstOf (K : PySem.W.Frag) : List V → Hp → VK → Prop := fun xs H Q => ∃ p ys, xs = [.ref p] ∧ (SqL K H p ys ∨ SqT K H p ys) ∧ ∀ l, H l = none → Q (.ref l) (upd H l (.lst ys))
theorem call_lstOf {X : Cx} : CallR X (.type "list") (rLstOf X.K) := call_list_of
theorem r_lstL {p : Addr} {ys : List V} (h : SqL K H p ys) (q : ∀ l, H l = none → Q (.ref l) (upd H l (.lst ys))) : rLstOf K [.ref p] H Q := ⟨p, ys, rfl, .inl h, q⟩
theorem r_lstT {p : Addr} {ys : List V} (h : SqT K H p ys) (q : ∀ l, H l = none → Q (.ref l) (upd H l (.lst ys))) : rLstOf K [.ref p] H Q := ⟨p, ys, rfl, .inr h, q⟩
theorem r_cat {l b : Addr} {xs zs : List V} (h1 : H l = some (.lst xs)) (h2 : H b = some (.lst zs)) (hl : xs.length + zs.length ≤ sizeLine) (q : ∀ p, H p = none → Q (.ref p) (upd H p (.lst (xs ++ zs)))) : rCat (.ref l) (.ref b) H Q := ⟨l, b, xs, zs, rfl, rfl, h1, h2, hl, q⟩
theorem r_append {l : Addr} {xs : List V} (h1 : H l = some (.lst xs)) (hl : xs.length < sizeLine) (q : Q .non (upd H l (.lst (xs ++ [y])))) : rAppend (.ref l) [y] H Q := ⟨l, xs, y, rfl, rfl, h1, hl, q⟩
theorem r_extend {l b : Addr} {xs zs : List V} (h1 : H l = some (.lst xs)) (h2 : H b = some (.lst zs)) (hl : xs.length + zs.length ≤ sizeLine) (q : Q .non (upd H l (.lst (xs ++ zs)))) : rExtend (.ref l) [.ref b] H Q := ⟨l, b, xs, zs, rfl, rfl, h1, h2, hl, q⟩
theorem r_bmL {r : V → List V → Hp → VK → Prop} {to : TE} {t : TA} (h : to σ H fun x H1 => tyV K "list" x H1 ∧ t σ H1 fun xs H2 => r x xs H2 Q) : tBM K "list" r to t σ H Q := h
theorem ty_l {p : Addr} {xs : List V} (h : SqL K H p xs) : tyV K "list" (.ref p) H := .inl ⟨rfl, _, h⟩
theorem r_slS {z : Str} {lo hi : Option Int} (h : z.length ≤ sizeLine) (q : Q (.str (cutS z lo hi)) H) : rSlS (.str z) lo hi H Q := ⟨z, rfl, h, q⟩
theorem r_slL {p : Addr} {xs : List V} {lo hi : Option Int} (h : SqL K H p xs) (q : ∀ l, H l = none → Q (.ref l) (upd H l (.lst (cutV xs lo hi)))) : rSlL K (.ref p) lo hi H Q := ⟨p, xs, rfl, h, q⟩
theorem r_sl {r : V → Option Int → Option Int → Hp → VK → Prop} {tl th : TO} (h : te σ H fun x H1 => tl σ H1 fun l H2 => th σ H2 fun u H3 => r x l u H3 Q) : tSl r te tl th σ H Q := h
theorem r_noPart {Qo : Option Int → Hp → Prop} (q : Qo none H) : tNoPart σ H Qo := q
theorem r_part {Qo : Option Int → Hp → Prop} (h : te σ H fun x H1 => ∃ i, x = .int i ∧ Qo (some i) H1) : tPart te σ H Qo := h
theorem r_pint {j : Int} {C : Int → Prop} (h : C j) : ∃ i, V.int j = .int i ∧ C i := ⟨j, rfl, h⟩
theorem r_isi {t u : Value} {b : Bool} {cl : V} (k : ClsV cl u) (ty : TyX K H x t) (e : PySem.W.kitOne K t u = some b) (q : Q (.bl b) H) : rIsi K [x, cl] H Q := ⟨x, cl, t, u, b, rfl, k, ty, e, q⟩
theorem r_rng1 {ta : TA} {R : It → Hp → Prop} (h : ta σ H fun vs H1 => ∃ j : Int, vs = [.int j] ∧ -(2 ^ 62) ≤ j ∧ j < 2 ^ 62 ∧ R (Itr 0 j.toNat) H1) : iRng1 ta σ H R := h
theorem r_rng1' {j : Int} {C : Int → Prop} (h1 : -(2 ^ 62) ≤ j) (h2 : j < 2 ^ 62) (h : C j) : ∃ j' : Int, [V.int j] = [.int j'] ∧ -(2 ^ 62) ≤ j' ∧ j' < 2 ^ 62 ∧ C j' := ⟨j, rfl, h1, h2, h⟩
end

/-! ### what was tracked stands -/
theorem same_t {K : PySem.W.Frag} {H H' : Hp} {a : Addr} {xs : List V} (e : Same H H') (h : SqT K H a xs) : SqT K H' a xs := by
  rcases h with (h | ⟨o, h⟩) | h
  · exact .inl (.inl (e _ _ h))
  · exact .inl (.inr ⟨o, e _ _ h⟩)
  · exact .inr h
theorem same_new {H : Hp} {p : Addr} {o : HO} (h : H p = none) : Same H (upd H p o) := fun b x e => by
  rw [upd_ne (ne_of_none e h)]
  exact e
/-- an object that H did not know was changed -/
theorem same_mut {H H' : Hp} {p : Addr} {o : HO} (e : Same H H') (h : H p = none) : Same H (upd H' p o) := fun a u ha => by
  rw [upd_ne (ne_of_none ha h)]
  exact e a u ha
mutual
theorem dp_same {K : PySem.W.Frag} {H H' : Hp} (e : Same H H') : ∀ (d : PyData) (v : V), Dp K H v d → Dp K H' v d
  | .none, _, h => by cases h; exact .non
  | .bool b, _, h => by cases h; exact .bl b
  | .int i, _, h => by cases h; exact .int i
  | .str x, _, h => by cases h; exact .str x
  | .list ds, _, h => by
    cases h with
    | lst hs ha => exact .lst (e.seq hs) (dpAll_same e ds _ ha)
  | .tuple ds, _, h => by
    cases h with
    | tup hs ha => exact .tup (same_t e hs) (dpAll_same e ds _ ha)
  | .dict _, _, h => by cases h
theorem dpAll_same {K : PySem.W.Frag} {H H' : Hp} (e : Same H H') : ∀ (ds : List PyData) (vs : List V), DpAll K H vs ds → DpAll K H' vs ds
  | [], _, h => by cases h; exact .nil
  | d :: ds, _, h => by
    cases h with
    | cons h1 h2 => exact .cons (dp_same e d _ h1) (dpAll_same e ds _ h2)
end
theorem dpAll_len {K : PySem.W.Frag} {H : Hp} : ∀ {vs : List V} {ds : List PyData}, DpAll K H vs ds → vs.length = ds.length
  | _, _, .nil => rfl
  | _, _, .cons _ t => congrArg (· + 1) (dpAll_len t)
theorem dpAll_get {K : PySem.W.Frag} {H : Hp} : ∀ {vs : List V} {ds : List PyData} {i : Nat} {d : PyData}, DpAll K H vs ds → ds[i]? = some d → ∃ v, vs[i]? = some v ∧ Dp K H v d
  | _, _, _, _, .nil, e => by simp at e
  | _, _, 0, _, .cons h _, e => by simp at e; subst e; exact ⟨_, rfl, h⟩
  | _, _, i + 1, d, .cons _ t, e => by
    obtain ⟨v, h1, h2⟩ := dpAll_get (i := i) (d := d) t (by simpa using e)
    exact ⟨v, by simpa using h1, h2⟩
theorem dpAll_map {K : PySem.W.Frag} {H : Hp} {α : Type} {f : α → V} {g : α → PyData} (h : ∀ x, Dp K H (f x) (g x)) : ∀ xs : List α, DpAll K H (xs.map f) (xs.map g)
  | [] => .nil
  | x :: xs => .cons (h x) (dpAll_map h xs)
/-- the type of what bears data -/
theorem tyx_sqL {K : PySem.W.Frag} {H : Hp} {a : Addr} {xs : List V} (h : SqL K H a xs) : TyX K H (.ref a) (.type "list") := by
  rcases h with (h | ⟨o, h⟩) | ⟨o, its, n, hk, hc, _⟩
  · exact .base (.lst h)
  · exact .base (.frz h)
  · exact .kList hk hc
theorem tyx_sqT {K : PySem.W.Frag} {H : Hp} {a : Addr} {xs : List V} (h : SqT K H a xs) : TyX K H (.ref a) (.type "tuple") := by
  rcases h with (h | ⟨o, h⟩) | ⟨o, its, n, hk, hc, _⟩
  · exact .base (.tup h)
  · exact .fTuple h
  · exact .kTuple hk hc

/-! ### walks over a text's signs -/
theorem for_str {x : Str} {g : TG} {tb : TS} {D : Ends} {σ : L2.St} {H : Hp} (Pv : Nat → L2.St → Hp → Prop) (h0 : Pv 0 σ H)
    (hs : ∀ i c σ H, x.cps.toList[i]? = some c → Pv i σ H → g (.str ⟨#[c]⟩) σ H fun σ2 H2 => tb { D with nx := Pv (i + 1), ct := Pv (i + 1), bk := D.nx } σ2 H2) (hd : ∀ σ H, Pv x.cps.size σ H → D.nx σ H) :
    ∃ W : Nat → Nat → L2.St → Hp → Prop, (∃ m, W 0 m σ H) ∧ ∀ i m σ H, W i m σ H →
      ((Its x).stop i H ∧ D.nx σ H) ∨ ((Its x).go i H ∧ ∃ N : L2.St → Hp → Prop, (∀ σ' H', N σ' H' → ∃ m', m' < m ∧ W (i + 1) m' σ' H') ∧ ∀ x' H', (Its x).yld i H x' H' → g x' σ H' fun σ2 H2 => tb { D with nx := N, ct := N, bk := D.nx } σ2 H2) := by
  refine ⟨fun i m σ H => m = x.cps.size - i ∧ i ≤ x.cps.size ∧ Pv i σ H, ⟨x.cps.size, by simp, Nat.zero_le _, h0⟩, ?_⟩
  rintro i m σ H ⟨rfl, hi, p⟩
  by_cases hlt : i < x.cps.size
  · refine .inr ⟨hlt, Pv (i + 1), fun σ' H' p' => ⟨x.cps.size - (i + 1), by omega, rfl, hlt, p'⟩, fun x' H' y => ?_⟩
    obtain ⟨e, c, hc, rfl⟩ := y
    subst e
    exact hs i c σ _ (by rw [Array.getElem?_toList]; exact hc) p
  · have e : i = x.cps.size := by omega
    subst e
    exact .inl ⟨Nat.le_refl _, hd σ H p⟩
end G
namespace G
open PySem PySem.Spec PyProof.Rows L2
/-! isinstance of built-in kinds -/
section
variable {K : PySem.W.Frag}
theorem kt_NoneType_list : PySem.W.kitOne K (.type "NoneType") (.type "list") = some false := kit_ty (by decide +kernel)
theorem kt_NoneType_tuple : PySem.W.kitOne K (.type "NoneType") (.type "tuple") = some false := kit_ty (by decide +kernel)
theorem kt_NoneType_bool : PySem.W.kitOne K (.type "NoneType") (.type "bool") = some false := kit_ty (by decide +kernel)
theorem kt_NoneType_int : PySem.W.kitOne K (.type "NoneType") (.type "int") = some false := kit_ty (by decide +kernel)
theorem kt_NoneType_str : PySem.W.kitOne K (.type "NoneType") (.type "str") = some false := kit_ty (by decide +kernel)
theorem kt_bool_list : PySem.W.kitOne K (.type "bool") (.type "list") = some false := kit_ty (by decide +kernel)
theorem kt_bool_tuple : PySem.W.kitOne K (.type "bool") (.type "tuple") = some false := kit_ty (by decide +kernel)
theorem kt_bool_bool : PySem.W.kitOne K (.type "bool") (.type "bool") = some true := kit_ty (by decide +kernel)
theorem kt_bool_int : PySem.W.kitOne K (.type "bool") (.type "int") = some true := kit_ty (by decide +kernel)
theorem kt_bool_str : PySem.W.kitOne K (.type "bool") (.type "str") = some false := kit_ty (by decide +kernel)
theorem kt_int_list : PySem.W.kitOne K (.type "int") (.type "list") = some false := kit_ty (by decide +kernel)
theorem kt_int_tuple : PySem.W.kitOne K (.type "int") (.type "tuple") = some false := kit_ty (by decide +kernel)
theorem kt_int_bool : PySem.W.kitOne K (.type "int") (.type "bool") = some false := kit_ty (by decide +kernel)
theorem kt_int_int : PySem.W.kitOne K (.type "int") (.type "int") = some true := kit_ty (by decide +kernel)
theorem kt_int_str : PySem.W.kitOne K (.type "int") (.type "str") = some false := kit_ty (by decide +kernel)
theorem kt_str_list : PySem.W.kitOne K (.type "str") (.type "list") = some false := kit_ty (by decide +kernel)
theorem kt_str_tuple : PySem.W.kitOne K (.type "str") (.type "tuple") = some false := kit_ty (by decide +kernel)
theorem kt_str_bool : PySem.W.kitOne K (.type "str") (.type "bool") = some false := kit_ty (by decide +kernel)
theorem kt_str_int : PySem.W.kitOne K (.type "str") (.type "int") = some false := kit_ty (by decide +kernel)
theorem kt_str_str : PySem.W.kitOne K (.type "str") (.type "str") = some true := kit_ty (by decide +kernel)
theorem kt_list_list : PySem.W.kitOne K (.type "list") (.type "list") = some true := kit_ty (by decide +kernel)
theorem kt_list_tuple : PySem.W.kitOne K (.type "list") (.type "tuple") = some false := kit_ty (by decide +kernel)
theorem kt_list_bool : PySem.W.kitOne K (.type "list") (.type "bool") = some false := kit_ty (by decide +kernel)
theorem kt_list_int : PySem.W.kitOne K (.type "list") (.type "int") = some false := kit_ty (by decide +kernel)
theorem kt_list_str : PySem.W.kitOne K (.type "list") (.type "str") = some false := kit_ty (by decide +kernel)
theorem kt_tuple_list : PySem.W.kitOne K (.type "tuple") (.type "list") = some false := kit_ty (by decide +kernel)
theorem kt_tuple_tuple : PySem.W.kitOne K (.type "tuple") (.type "tuple") = some true := kit_ty (by decide +kernel)
theorem kt_tuple_bool : PySem.W.kitOne K (.type "tuple") (.type "bool") = some false := kit_ty (by decide +kernel)
theorem kt_tuple_int : PySem.W.kitOne K (.type "tuple") (.type "int") = some false := kit_ty (by decide +kernel)
theorem kt_tuple_str : PySem.W.kitOne K (.type "tuple") (.type "str") = some false := kit_ty (by decide +kernel)
end
section
variable {K : PySem.W.Frag} {H : Hp} {Q : VK} {v : V}
theorem r_xL {p : Addr} {xs : List V} {i : Int} (h : SqL K H p xs) (a : atI xs i = some v) (q : Q v H) : rIx K (.ref p) (.int i) H Q := .inl ⟨p, xs, i, v, rfl, rfl, h, a, q⟩
theorem r_xT {p : Addr} {xs : List V} {i : Int} (h : SqT K H p xs) (a : atI xs i = some v) (q : Q v H) : rIx K (.ref p) (.int i) H Q := .inr (.inl ⟨p, xs, i, v, rfl, rfl, h, a, q⟩)
end
/-! a def of which nothing is promised -/
theorem fn_false {P : Program} {w : World} {K : PySem.W.Frag} {mg : Str → Option Value} {base : Heap} {CX : CXT} {k : Nat} {f : Addr} {fd : FuncData} {ps : List Str} : FnOk P w K mg base CX k f fd ps (fun _ _ _ _ => False) := by
  constructor
  · intros; contradiction
  · intros; contradiction
theorem fn_vac {P : Program} {w : World} {K : PySem.W.Frag} {mg : Str → Option Value} {base : Heap} {CX : CXT} {k : Nat} {f : Addr} {fd : FuncData} {ps : List Str} {sp : Sp} (h : ∀ vs H Q E, sp vs H Q E → False) : FnOk P w K mg base CX k f fd ps sp := by
  have e : sp = fun _ _ _ _ => False := by
    funext vs H Q E
    exact propext ⟨h vs H Q E, False.elim⟩
  rw [e]
  exact fn_false

/-! ### promises of the law's helpers -/
def cellV (ns : List Int) (k : Int) : Int := ns.getD k.toNat 0
def spCellG (K : PySem.W.Frag) : Sp := fun vs H Q _ => ∃ (l : Addr) (ns : List Int) (k : Int), vs = [.ref l, .int k] ∧ SqL K H l (ns.map V.int) ∧ 0 ≤ k ∧ Q (.int (cellV ns k)) H
/-- data of a depth below n, of bounded lengths -/
def fits : Nat → PyData → Prop
  | 0, _ => False
  | n + 1, .list ds => ds.length ≤ sizeLine ∧ ∀ d ∈ ds, fits n d
  | n + 1, .tuple ds => ds.length ≤ sizeLine ∧ ∀ d ∈ ds, fits n d
  | _ + 1, .dict _ => False
  | _ + 1, .none => True
  | _ + 1, .bool _ => True
  | _ + 1, .int _ => True
  | _ + 1, .str _ => True
def spSame (K : PySem.W.Frag) (n : Nat) : Sp := fun vs H Q _ => ∃ (x y : V) (d : PyData), vs = [x, y] ∧ Dp K H x d ∧ Dp K H y d ∧ fits n d ∧ Q (.bl true) H
/-- count new numbers from 0 to 999 -/
def spNums (K : PySem.W.Frag) : Sp := fun vs H Q _ => ∃ (c : Int) (n : Nat), vs = [.int c, .int (n : Int)] ∧ n ≤ 10000 ∧
  ∀ (H' : Hp) (p : Addr) (ns : List Int), Same H H' → H p = none → H' p = some (.lst (ns.map V.int)) → ns.length = n → (∀ z ∈ ns, 0 ≤ z ∧ z < 1000) → Q (.ref p) H'
theorem emod_rng (a : Int) {b : Int} (h : 0 < b) : 0 ≤ a % b ∧ a % b < b := ⟨Int.emod_nonneg a (by omega), Int.emod_lt_of_pos a h⟩
/-! texts as lists of codes -/
abbrev sV (l : List Nat) : V := .str ⟨l.toArray⟩
theorem str_app (a b : List Nat) : (⟨a.toArray⟩ : Str) ++ (⟨b.toArray⟩ : Str) = ⟨(a ++ b).toArray⟩ := congrArg Str.mk (show a.toArray ++ b.toArray = (a ++ b).toArray by simp)
theorem str_len (a : List Nat) : (⟨a.toArray⟩ : Str).length = a.length := by simp [Str.length]
/-- a comprehension over a text's signs -/
theorem lc_str {x : Str} {g : TG} {tt : TT} {te : TE} {vs : List Nat} {σ : L2.St} {H1 : Hp} {D : Addr} {Qd : Hp → Prop} (Pv : Nat → Hp → Prop) (h0 : Pv 0 (upd H1 D (.lst [])))
    (hs : ∀ i c H, x.cps.toList[i]? = some c → Pv i H → g (.str ⟨#[c]⟩) (wipe σ vs) H fun σ2 H2 => wipe σ2 vs = wipe σ vs ∧ tt σ2 H2 fun b H3 =>
      if b = true then te σ2 H3 fun y H4 => ∃ acc, H4 D = some (.lst acc) ∧ acc.length < sizeLine ∧ Pv (i + 1) (upd H4 D (.lst (acc ++ [y]))) else Pv (i + 1) H3) (hd : ∀ H, Pv x.cps.size H → Qd H) :
    ∃ W : Nat → Nat → Hp → Prop, (∃ m, W 0 m (upd H1 D (.lst []))) ∧ ∀ i m H, W i m H →
      ((Its x).stop i H ∧ Qd H) ∨ ((Its x).go i H ∧ ∃ Nx : Hp → Prop, (∀ H', Nx H' → ∃ m', m' < m ∧ W (i + 1) m' H') ∧ ∀ x' H', (Its x).yld i H x' H' → g x' (wipe σ vs) H' fun σ2 H2 => wipe σ2 vs = wipe σ vs ∧ tt σ2 H2 fun b H3 =>
        if b = true then te σ2 H3 fun y H4 => ∃ acc, H4 D = some (.lst acc) ∧ acc.length < sizeLine ∧ Nx (upd H4 D (.lst (acc ++ [y]))) else Nx H3) := by
  refine ⟨fun i m H => m = x.cps.size - i ∧ i ≤ x.cps.size ∧ Pv i H, ⟨x.cps.size, by simp, Nat.zero_le _, h0⟩, ?_⟩
  rintro i m H ⟨rfl, hi, p⟩
  by_cases hlt : i < x.cps.size
  · refine .inr ⟨hlt, Pv (i + 1), fun H' p' => ⟨x.cps.size - (i + 1), by omega, rfl, hlt, p'⟩, fun x' H' y => ?_⟩
    obtain ⟨e, c, hc, rfl⟩ := y
    subst e
    exact hs i c _ (by rw [Array.getElem?_toList]; exact hc) p
  · have e : i = x.cps.size := by omega
    subst e
    exact .inl ⟨Nat.le_refl _, hd H p⟩
theorem cut_abcd {m : Nat} (h4 : m ≤ 4) : cutS (Str.ofString "abcd") none (some (m : Int)) = ⟨(List.take m [97, 98, 99, 100]).toArray⟩ := by
  match m, h4 with
  | 0, _ => decide +kernel
  | 1, _ => decide +kernel
  | 2, _ => decide +kernel
  | 3, _ => decide +kernel
  | 4, _ => decide +kernel
section
variable {σ : L2.St} {H : Hp} {Q : VK} {K : PySem.W.Frag} {te : TE} {R : It → Hp → Prop}
theorem r_gn {i : Nat} {v : V} {C : L2.St → Hp → Prop} (h : C (σ.set i (some v)) H) : gName i v σ H C := h
theorem iteNT {A B : Prop} (h : B) : if (!true) = true then A else B := iteF h
theorem iteNF {A B : Prop} (h : A) : if (!false) = true then A else B := iteT h
theorem r_fdiv {g : Int → Int → V} {i j : Int} (hc : 0 < j ∧ j < 1073741824) (h : Q (g i j) H) : rI CDiv g (.int i) (.int j) H Q := ⟨i, j, rfl, rfl, hc, h⟩
theorem r_mod {g : Int → Int → V} {i j : Int} (hc : 0 < j) (h : Q (g i j) H) : rI (fun _ j => 0 < j) g (.int i) (.int j) H Q := ⟨i, j, rfl, rfl, hc, h⟩
theorem r_mul {g : Int → Int → V} {i j : Int} (hc : (-(2 ^ 64) < i ∧ i < 2 ^ 64) ∨ (-(2 ^ 64) < j ∧ j < 2 ^ 64)) (h : Q (g i j) H) : rI CMul g (.int i) (.int j) H Q := ⟨i, j, rfl, rfl, hc, h⟩
theorem r_pow {g : Int → Int → V} {i j : Int} (hc : 0 ≤ j ∧ j ≤ 1000000 ∧ i.natAbs < 2 ^ 64) (h : Q (g i j) H) : rI CPow g (.int i) (.int j) H Q := ⟨i, j, rfl, rfl, hc, h⟩
theorem r_iStr (h : te σ H fun v H1 => ∃ x, v = .str x ∧ R (Its x) H1) : iStr te σ H R := h
theorem r_iList (h : te σ H fun x H1 => ∃ a, x = .ref a ∧ (∃ xs, SqL K H1 a xs) ∧ R (Itl K a) H1) : iList K te σ H R := h
theorem r_iTup (h : te σ H fun x H1 => ∃ a, x = .ref a ∧ (∃ xs, SqT K H1 a xs) ∧ R (Itt K a) H1) : iTup K te σ H R := h
theorem r_str1 {z : Str} {C : Str → Prop} (h : C z) : ∃ x, V.str z = .str x ∧ C x := ⟨z, rfl, h⟩
theorem r_ref1 {p : Addr} {C : Addr → Prop} (h : C p) : ∃ a, V.ref p = .ref a ∧ C a := ⟨p, rfl, h⟩
end
/-! places in a text -/
def noE : Expr := .Name "" ⟨0, 0, 0, 0⟩
def noS : Stmt := .Pass ⟨0, 0, 0, 0⟩
def eArg (k : Nat) : Expr → Expr | .Call _ es _ _ => es.getD k noE | _ => noE
def eFun : Expr → Expr | .Call f _ _ _ => f | _ => noE
def eObj : Expr → Expr | .Attribute v _ _ => v | _ => noE
def eElt : Expr → Expr | .ListComp e _ _ _ => e | .SetComp e _ _ _ => e | .GeneratorExp e _ _ _ => e | _ => noE
def eScope : Expr → Scope | .ListComp _ _ sc _ => sc | .SetComp _ _ sc _ => sc | .GeneratorExp _ _ sc _ => sc | _ => { kind := .function, names := [], isGenerator := false, isCoroutine := false }
def eIter (k : Nat) : Expr → Expr | .ListComp _ gs _ _ => (gs.map fun g => g.iter).getD k noE | _ => noE
def eIf (k j : Nat) : Expr → Expr | .ListComp _ gs _ _ => ((gs.map fun g => g.ifs).getD k []).getD j noE | _ => noE
def eLeft : Expr → Expr | .BinOp a _ _ _ => a | .Compare a _ _ _ => a | .Subscript a _ _ => a | .UnaryOp _ a _ => a | _ => noE
def eRight : Expr → Expr | .BinOp _ _ b _ => b | .Subscript _ b _ => b | _ => noE
def eCmp (k : Nat) : Expr → Expr | .Compare _ _ bs _ => bs.getD k noE | _ => noE
def eVal (k : Nat) : Expr → Expr | .BoolOp _ es _ => es.getD k noE | .List es _ => es.getD k noE | .Tuple es _ _ => es.getD k noE | _ => noE
def sE : Stmt → Expr | .Assign _ e _ => e | .AugAssign _ _ e _ => e | .Return (some e) _ => e | .Expr e _ => e | .If c _ _ _ => c | .While c _ _ _ => c | .For _ it _ _ _ => it | _ => noE
def sIn (k : Nat) : Stmt → Stmt | .FunctionDef _ _ b _ _ _ _ _ _ _ => b.getD k noS | .If _ b _ _ => b.getD k noS | .For _ _ b _ _ => b.getD k noS | .While _ b _ _ => b.getD k noS | _ => noS
def sElse (k : Nat) : Stmt → Stmt | .If _ _ b _ => b.getD k noS | _ => noS
section
variable {σ : L2.St} {H : Hp} {Q : VK} {K : PySem.W.Frag} {te : TE}
def rIdxS : V → List V → Hp → VK → Prop := fun x xs H Q => ∃ a b i rest, x = .str a ∧ xs = [.str b] ∧ Builtin.Str.occurrences a b 0 a.length 1 = i :: rest ∧ Q (.int (i : Nat)) H
theorem mt_indexS {X : Cx} : MtR X "str.index" rIdxS := mt_sindex
theorem occ_abcd {j c : Nat} (h : [97, 98, 99, 100][j]? = some c) : Builtin.Str.occurrences (Str.ofString "abcd") ⟨#[c]⟩ 0 (Str.ofString "abcd").length 1 = [j] := by
  match j, h with
  | 0, h => cases Option.some.inj h; decide +kernel
  | 1, h => cases Option.some.inj h; decide +kernel
  | 2, h => cases Option.some.inj h; decide +kernel
  | 3, h => cases Option.some.inj h; decide +kernel
  | n + 4, h => simp at h
theorem r_idxS {j c : Nat} (h : [97, 98, 99, 100][j]? = some c) (q : Q (.int (j : Int)) H) : rIdxS (.str (Str.ofString "abcd")) [.str ⟨#[c]⟩] H Q := ⟨_, _, j, [], rfl, rfl, occ_abcd h, q⟩
def rJoinS (K : PySem.W.Frag) : V → List V → Hp → VK → Prop := fun x xs H Q => ∃ a p, ∃ ys : List Str, x = .str a ∧ xs = [.ref p] ∧ (SqL K H p (ys.map V.str) ∨ SqT K H p (ys.map V.str)) ∧ (ys.map (·.length)).sum + ys.length * a.length ≤ 16777216 ∧ Q (.str (Txt.join a ys)) H
theorem mt_joinS {X : Cx} : MtR X "str.join" (rJoinS X.K) := mt_join
theorem r_bmS {T : String} {r : V → List V → Hp → VK → Prop} {to : TE} {t : TA} (h : to σ H fun x H1 => tyV K T x H1 ∧ t σ H1 fun xs H2 => r x xs H2 Q) : tBM K T r to t σ H Q := h
theorem foldl_app : ∀ (xs : List (Array Nat)) (acc : Array Nat), xs.foldl (· ++ ·) acc = acc ++ (xs.map Array.toList).flatten.toArray
  | [], acc => by simp
  | x :: xs, acc => by
    rw [List.foldl_cons, foldl_app xs (acc ++ x)]
    rw [List.map_cons, List.flatten_cons, Array.append_assoc]
    congr 1
    apply Array.ext'
    simp
theorem mul_txt (l : List Nat) (n : Nat) : Txt.mul ⟨l.toArray⟩ (n : Int) = ⟨((List.replicate n l).flatten).toArray⟩ := by
  unfold Txt.mul
  by_cases h1 : (n : Int) < 1
  · have e : n = 0 := by omega
    subst e
    rfl
  · rw [if_neg h1]
    by_cases h2 : ((n : Int) == 1 || (⟨l.toArray⟩ : Str).length == 0) = true
    · rw [if_pos h2]
      rcases Bool.or_eq_true_iff.mp h2 with e | e
      · have e' : n = 1 := by have := eq_of_beq e; omega
        subst e'
        simp
      · have e' : l = [] := by
          have e2 : l.toArray.size = 0 := eq_of_beq e
          rw [List.size_toArray] at e2
          exact List.length_eq_zero_iff.mp e2
        subst e'
        simp
    · rw [if_neg h2]
      congr 1
      rw [foldl_app]
      simp
def rRepS : R2 := fun x y H Q => ∃ (l : List Nat) (n : Nat), x = .str ⟨l.toArray⟩ ∧ y = .int (n : Int) ∧ l.length * n ≤ sizeLine ∧ n ≤ 1000000 ∧ Q (.str ⟨((List.replicate n l).flatten).toArray⟩) H
theorem op_repS {X : Cx} : OpR X (binaryOp .Mult) rRepS := by
  intro pins s σ H x y v u Q I rx ry h
  obtain ⟨l, n, rfl, rfl, hl, hn, q⟩ := h
  obtain ⟨t, rfl⟩ := rx
  obtain ⟨t2, rfl⟩ := ry
  refine SB.mul ⟨?_, fun h1 h2 => ?_, fun h1 h2 => ?_⟩ fun t' k => ⟨.str (Txt.mul ⟨l.toArray⟩ (n : Int)), H, I.tok k, ⟨t', rfl⟩, ?_⟩
  · rw [Bool.or_eq_false_iff]
    exact ⟨decide_eq_false (by omega), decide_eq_false (by omega)⟩
  · have hz : (sizeLine : Nat) = 16777216 := by decide
    rw [str_len]
    intro hc
    have hn1 : 1 ≤ n := by omega
    have hll : l.length ≤ 16777216 := by
      have : l.length * 1 ≤ l.length * n := Nat.mul_le_mul_left _ hn1
      omega
    have h3 : (1000000000 : Int) ≤ (2 ^ 63 - 1) / (n : Int) := by
      rw [Int.le_ediv_iff_mul_le (by omega)]
      omega
    omega
  · rw [str_len]
    have : (l.length * (n : Int).toNat) ≤ sizeLine := by rw [Int.toNat_natCast]; exact hl
    exact decide_eq_false (by omega)
  · rw [mul_txt]
    exact q
theorem r_lstRg1 {j : Int} (h0 : 0 ≤ j) (h1 : j ≤ 16777216) (q : ∀ p, H p = none → Q (.ref p) (upd H p (.lst (((List.range j.toNat).map fun i : Nat => (i : Int)).map V.int)))) (h : te σ H fun x H1 => x = .int j ∧ H1 = H) (mono : ∀ R R' : VK, (∀ v H, R v H → R' v H) → te σ H R → te σ H R') : tLstRg (tRg1 te) σ H Q := by
  refine mono _ _ (fun v H1 e => ?_) h
  obtain ⟨rfl, rfl⟩ := e
  refine ⟨j, rfl, RgOk.of_le (Int.le_refl _) h1 (by decide) h0, fun p hp => ?_⟩
  have e : rgV 0 j = ((List.range j.toNat).map fun i : Nat => (i : Int)).map V.int := by
    unfold rgV
    rw [List.map_map, show (j - 0) = j by omega]
    refine List.map_congr_left fun i _ => ?_
    show V.int (0 + (i : Int)) = V.int (i : Int)
    rw [Int.zero_add]
  rw [e]
  exact q p hp
end
/-! drawn numbers -/
def Dr (n : Nat) (c : Int) (ms : List Int) : Prop := ms.length = n ∧ ∀ z ∈ ms, 0 ≤ z ∧ z < c
theorem Dr.nil {c : Int} : Dr 0 c [] := ⟨rfl, fun _ h => nomatch h⟩
theorem Dr.app {n : Nat} {c z : Int} {ms : List Int} (h : Dr n c ms) (h0 : 0 ≤ z) (h1 : z < c) : Dr (n + 1) c (ms ++ [z]) := by
  refine ⟨by rw [List.length_append, h.1]; rfl, fun y hy => ?_⟩
  rcases List.mem_append.mp hy with hy | hy
  · exact h.2 y hy
  · rw [List.mem_singleton.mp hy]; exact ⟨h0, h1⟩
theorem Dr.set {n : Nat} {c z : Int} {ms : List Int} {j : Nat} (h : Dr n c ms) (h0 : 0 ≤ z) (h1 : z < c) : Dr n c (ms.set j z) := by
  refine ⟨by rw [List.length_set]; exact h.1, fun y hy => ?_⟩
  rcases List.mem_or_eq_of_mem_set hy with hy | hy
  · exact h.2 y hy
  · rw [hy]; exact ⟨h0, h1⟩
theorem Dr.getD {n : Nat} {c : Int} {ms : List Int} {j : Nat} (h : Dr n c ms) (hj : j < n) : 0 ≤ ms.getD j 0 ∧ ms.getD j 0 < c := by
  have hj' : j < ms.length := by rw [h.1]; exact hj
  rw [List.getD_eq_getElem?_getD, List.getElem?_eq_getElem hj']
  exact h.2 _ (List.getElem_mem hj')
theorem at_int {ns : List Int} {i : Int} (h0 : 0 ≤ i) (h1 : i < ns.length) : atI (ns.map V.int) i = some (.int (ns.getD i.toNat 0)) := by
  have hi : i.toNat < ns.length := by omega
  refine at_of (j := i.toNat) (by omega) ?_
  rw [List.getElem?_map, List.getD_eq_getElem?_getD, List.getElem?_eq_getElem hi]
  rfl
theorem ix_set {n : Nat} {i : Int} (h0 : 0 ≤ i) (h1 : i < n) : ixN n i = some i.toNat := by
  unfold ixN
  rw [if_pos h0, if_pos h1]
theorem r_setL {p : Addr} {xs : List V} {k : Int} {y : V} {H : Hp} {Q : Hp → Prop} (h : H p = some (.lst xs)) (h0 : 0 ≤ k) (h1 : k < xs.length) (q : Q (upd H p (.lst (xs.set k.toNat y)))) : rSetL (.ref p) (.int k) y H Q := ⟨p, xs, k, k.toNat, rfl, rfl, h, ix_set h0 h1, q⟩
theorem r_gsub {to ti : TE} {t : TSet} {v : V} {σ : L2.St} {H : Hp} {C : L2.St → Hp → Prop} (h : to σ H fun o H1 => ti σ H1 fun i H2 => t o i v H2 fun H3 => C σ H3) : gSub to ti t v σ H C := h
theorem map_set_int (ms : List Int) (j : Nat) (z : Int) : (ms.map V.int).set j (V.int z) = (ms.set j z).map V.int := by rw [List.map_set]
theorem rep_flat (z : Int) (n : Nat) : (List.replicate n [V.int z]).flatten = (List.replicate n z).map V.int := by
  induction n with
  | zero => rfl
  | succ n ih => rw [List.replicate_succ, List.flatten_cons, ih, List.replicate_succ]; rfl
theorem Dr.rep {n : Nat} {c z : Int} (h0 : 0 ≤ z) (h1 : z < c) : Dr n c (List.replicate n z) := ⟨List.length_replicate, fun y hy => by rw [(List.mem_replicate.mp hy).2]; exact ⟨h0, h1⟩⟩
theorem Dr.perm {n : Nat} {c : Int} {ms ms' : List Int} (h : Dr n c ms) (p : ms'.Perm ms) : Dr n c ms' := ⟨by rw [p.length_eq]; exact h.1, fun y hy => h.2 y (p.mem_iff.mp hy)⟩
theorem Dr.range (n : Nat) : Dr n n ((List.range n).map fun i : Nat => (i : Int)) := by
  refine ⟨by rw [List.length_map, List.length_range], fun y hy => ?_⟩
  obtain ⟨i, hi, rfl⟩ := List.mem_map.mp hy
  have := List.mem_range.mp hi
  exact ⟨by omega, by omega⟩
def spAction (K : PySem.W.Frag) : Sp := fun vs H Q _ => ∃ (p : Addr) (ns : List Int) (n : Nat), vs = [.ref p, .int (n : Int)] ∧ SqL K H p (ns.map V.int) ∧ 12 ≤ ns.length ∧ 1 ≤ n ∧ n ≤ 10 ∧
  ∀ (H' : Hp) (q : Addr) (ms : List Int), Same H H' → H q = none → H' q = some (.lst (ms.map V.int)) → Dr n n ms → Q (.ref q) H'
/-! the rules with the written part named -/
section
variable {X : Cx} {K : PySem.W.Frag}
theorem ix_listK (h : X.K = K) : IxR X (rIxL K) := h ▸ ix_list
theorem ix_tupK (h : X.K = K) : IxR X (rIxT K) := h ▸ ix_tup
theorem ix_seqK (h : X.K = K) : IxR X (rIx K) := h ▸ ix_seq
theorem call_lenQK (h : X.K = K) : CallR X (.builtin "len") (rLenQ K) := h ▸ call_lenQ
theorem call_tupOfK (h : X.K = K) : CallR X (.type "tuple") (rTupOf K) := h ▸ call_tupOf
theorem call_lstOfK (h : X.K = K) : CallR X (.type "list") (rLstOf K) := h ▸ call_lstOf
theorem call_isiK1 (h : X.K = K) : CallR X (.builtin "isinstance") (rIsi K) := h ▸ call_isi
theorem cr_sortedK (h : X.K = K) : CallR X (.builtin "sorted") (rSorted K) := h ▸ cr_sorted
theorem sl_listK (h : X.K = K) : SlR X (rSlL K) := h ▸ sl_list
theorem sl_tupK (h : X.K = K) : SlR X (rSlT K) := h ▸ sl_tup
theorem op_inK (h : X.K = K) : OpR X (compareOp .In) (rIn K false) := h ▸ op_in_seq
theorem op_notInK (h : X.K = K) : OpR X (compareOp .NotIn) (rIn K true) := h ▸ op_notIn_seq
theorem op_catTK (h : X.K = K) : OpR X (binaryOp .Add) (rCatT K) := h ▸ op_catT
theorem op_eqDK (h : X.K = K) (hu : X.A.units + 64 < cLine) : OpR X (compareOp .Eq) (rEqD K) := h ▸ op_eqD hu
theorem op_neDK (h : X.K = K) (hu : X.A.units + 64 < cLine) : OpR X (compareOp .NotEq) (rNeD K) := h ▸ op_neD hu
theorem mt_joinSK (h : X.K = K) : MtR X "str.join" (rJoinS K) := h ▸ mt_joinS
theorem cr_anyK (h : X.K = K) (hc : X.calm = true) : CallR X (.builtin "any") (rAny K) := h ▸ cr_any hc
theorem pi_listK {tg l : Expr} {tl : TE} (h : X.K = K) (hl : PE X l tl) : PI X tg l (iList K tl) := h ▸ pi_list hl
theorem pi_tupK {tg l : Expr} {tl : TE} (h : X.K = K) (hl : PE X l tl) : PI X tg l (iTup K tl) := h ▸ pi_tup hl
theorem bmK {e : Expr} {T : String} {r : V → List V → Hp → VK → Prop} {to : TE} {t : TA} (h : X.K = K) (p : PE X e (tBM X.K T r to t)) : PE X e (tBM K T r to t) := h ▸ p
theorem bm0K {e : Expr} {T : String} {r : V → List V → Hp → VK → Prop} {to : TE} (h : X.K = K) (p : PE X e (tBM0 X.K T r to)) : PE X e (tBM0 K T r to) := h ▸ p
theorem pg_tupK {es : List Expr} {k : Nat} {t : TGs} {n : Nat} {pos : Pos} (hK : X.K = K) (hc : X.calm = true) (h : PGs X es t) (hn : (assignEach es X.env).length = n := by rfl) (hst : (assignEach es X.env).findIdx? (·.1) = none := by rfl) : PG X (.Tuple es k pos) (gTup K n t) := hK ▸ pg_tup hc h hn hst
end
theorem ln1 {x0 : V} : [x0].length ≤ sizeLine := by show 1 ≤ sizeLine; decide
theorem ln2 {x0 x1 : V} : [x0, x1].length ≤ sizeLine := by show 2 ≤ sizeLine; decide
theorem ln3 {x0 x1 x2 : V} : [x0, x1, x2].length ≤ sizeLine := by show 3 ≤ sizeLine; decide
theorem ln4 {x0 x1 x2 x3 : V} : [x0, x1, x2, x3].length ≤ sizeLine := by show 4 ≤ sizeLine; decide
theorem ln5 {x0 x1 x2 x3 x4 : V} : [x0, x1, x2, x3, x4].length ≤ sizeLine := by show 5 ≤ sizeLine; decide
theorem ln6 {x0 x1 x2 x3 x4 x5 : V} : [x0, x1, x2, x3, x4, x5].length ≤ sizeLine := by show 6 ≤ sizeLine; decide
theorem ln7 {x0 x1 x2 x3 x4 x5 x6 : V} : [x0, x1, x2, x3, x4, x5, x6].length ≤ sizeLine := by show 7 ≤ sizeLine; decide
theorem ln8 {x0 x1 x2 x3 x4 x5 x6 x7 : V} : [x0, x1, x2, x3, x4, x5, x6, x7].length ≤ sizeLine := by show 8 ≤ sizeLine; decide
/-! ### data of tuples alone: what never changes -/
mutual
inductive Dt (K : PySem.W.Frag) (H : Hp) : V → PyData → Prop
  | non : Dt K H .non .none
  | bl (b : Bool) : Dt K H (.bl b) (.bool b)
  | int (i : Int) : Dt K H (.int i) (.int i)
  | str (x : Str) : Dt K H (.str x) (.str x)
  | tup {a : Addr} {xs : List V} {ds : List PyData} : SqT K H a xs → DtAll K H xs ds → Dt K H (.ref a) (.tuple ds)
inductive DtAll (K : PySem.W.Frag) (H : Hp) : List V → List PyData → Prop
  | nil : DtAll K H [] []
  | cons {v : V} {vs : List V} {d : PyData} {ds : List PyData} : Dt K H v d → DtAll K H vs ds → DtAll K H (v :: vs) (d :: ds)
end
/-- tuples stand -/
def SameT (H H' : Hp) : Prop := ∀ b, (∀ xs, H b = some (.tup xs) → H' b = some (.tup xs)) ∧ ∀ o xs, H b = some (.frz o (.tup xs)) → H' b = some (.frz o (.tup xs))
theorem sT_of {H H' : Hp} (e : Same H H') : SameT H H' := fun b => ⟨fun _ h => e b _ h, fun _ _ h => e b _ h⟩
theorem SameT.refl (H : Hp) : SameT H H := fun _ => ⟨fun _ h => h, fun _ _ h => h⟩
theorem SameT.trans {H H1 H2 : Hp} (a : SameT H H1) (b : SameT H1 H2) : SameT H H2 := fun c => ⟨fun xs h => (b c).1 xs ((a c).1 xs h), fun o xs h => (b c).2 o xs ((a c).2 o xs h)⟩
theorem SameT.lst {H : Hp} {p : Addr} {xs : List V} {o : HO} (h : H p = some (.lst xs)) : SameT H (upd H p o) := fun b => by
  refine ⟨fun ys e => ?_, fun o' ys e => ?_⟩
  · have : b ≠ p := fun z => by rw [z, h] at e; cases e
    rw [upd_ne this]; exact e
  · have : b ≠ p := fun z => by rw [z, h] at e; cases e
    rw [upd_ne this]; exact e
theorem SameT.sq {K : PySem.W.Frag} {H H' : Hp} {a : Addr} {xs : List V} (e : SameT H H') (h : SqT K H a xs) : SqT K H' a xs := by
  rcases h with (h | ⟨o, h⟩) | h
  · exact .inl (.inl ((e _).1 _ h))
  · exact .inl (.inr ⟨o, (e _).2 _ _ h⟩)
  · exact .inr h
mutual
theorem Dt.keep {K : PySem.W.Frag} {H H' : Hp} (e : SameT H H') : ∀ (d : PyData) (v : V), Dt K H v d → Dt K H' v d
  | .none, _, h => by cases h; exact .non
  | .bool b, _, h => by cases h; exact .bl b
  | .int i, _, h => by cases h; exact .int i
  | .str x, _, h => by cases h; exact .str x
  | .list ds, _, h => by cases h
  | .tuple ds, _, h => by
    cases h with
    | tup hs ha => exact .tup (e.sq hs) (DtAll.keep e ds _ ha)
  | .dict _, _, h => by cases h
theorem DtAll.keep {K : PySem.W.Frag} {H H' : Hp} (e : SameT H H') : ∀ (ds : List PyData) (vs : List V), DtAll K H vs ds → DtAll K H' vs ds
  | [], _, h => by cases h; exact .nil
  | d :: ds, _, h => by
    cases h with
    | cons h1 h2 => exact .cons (Dt.keep e d _ h1) (DtAll.keep e ds _ h2)
end
mutual
theorem Dt.dp {K : PySem.W.Frag} {H : Hp} : ∀ (d : PyData) (v : V), Dt K H v d → Dp K H v d
  | .none, _, h => by cases h; exact .non
  | .bool b, _, h => by cases h; exact .bl b
  | .int i, _, h => by cases h; exact .int i
  | .str x, _, h => by cases h; exact .str x
  | .list ds, _, h => by cases h
  | .tuple ds, _, h => by
    cases h with
    | tup hs ha => exact .tup hs (DtAll.dp ds _ ha)
  | .dict _, _, h => by cases h
theorem DtAll.dp {K : PySem.W.Frag} {H : Hp} : ∀ (ds : List PyData) (vs : List V), DtAll K H vs ds → DpAll K H vs ds
  | [], _, h => by cases h; exact .nil
  | d :: ds, _, h => by
    cases h with
    | cons h1 h2 => exact .cons (Dt.dp d _ h1) (DtAll.dp ds _ h2)
end
section
variable {K : PySem.W.Frag} {H H' : Hp}
theorem Dt.k {v : V} {d : PyData} (h : Dt K H v d) (e : SameT H H') : Dt K H' v d := Dt.keep e d v h
theorem DtAll.k {vs : List V} {ds : List PyData} (h : DtAll K H vs ds) (e : SameT H H') : DtAll K H' vs ds := DtAll.keep e ds vs h
theorem DtAll.len : ∀ {vs : List V} {ds : List PyData}, DtAll K H vs ds → vs.length = ds.length
  | _, _, .nil => rfl
  | _, _, .cons _ t => congrArg (· + 1) (DtAll.len t)
theorem DtAll.get : ∀ {vs : List V} {ds : List PyData} {i : Nat} {d : PyData}, DtAll K H vs ds → ds[i]? = some d → ∃ v, vs[i]? = some v ∧ Dt K H v d
  | _, _, _, _, .nil, e => by simp at e
  | _, _, 0, _, .cons h _, e => by simp at e; subst e; exact ⟨_, rfl, h⟩
  | _, _, i + 1, d, .cons _ t, e => by
    obtain ⟨v, h1, h2⟩ := DtAll.get (i := i) (d := d) t (by simpa using e)
    exact ⟨v, by simpa using h1, h2⟩
theorem DtAll.map {α : Type} {f : α → V} {g : α → PyData} (h : ∀ x, Dt K H (f x) (g x)) : ∀ xs : List α, DtAll K H (xs.map f) (xs.map g)
  | [] => .nil
  | x :: xs => .cons (h x) (DtAll.map h xs)
theorem DtAll.app : ∀ {vs ws : List V} {ds es : List PyData}, DtAll K H vs ds → DtAll K H ws es → DtAll K H (vs ++ ws) (ds ++ es)
  | _, _, _, _, .nil, s => s
  | _, _, _, _, .cons h t, s => .cons h (DtAll.app t s)
theorem DtAll.snoc {vs : List V} {ds : List PyData} {v : V} {d : PyData} (a : DtAll K H vs ds) (b : Dt K H v d) : DtAll K H (vs ++ [v]) (ds ++ [d]) := a.app (.cons b .nil)
theorem Dt.tupE {v : V} {ds : List PyData} (h : Dt K H v (.tuple ds)) : ∃ a xs, v = .ref a ∧ SqT K H a xs ∧ DtAll K H xs ds := by
  cases h with
  | tup hs ha => exact ⟨_, _, rfl, hs, ha⟩
theorem Dt.intE {v : V} {i : Int} (h : Dt K H v (.int i)) : v = .int i := by cases h; rfl
theorem DtAll.ints : ∀ {ns : List Int} {vs : List V}, DtAll K H vs (ns.map .int) → vs = ns.map V.int
  | [], _, h => by cases h; rfl
  | n :: ns, _, h => by
    cases h with
    | cons h1 h2 => rw [Dt.intE h1, DtAll.ints h2]; rfl
theorem DtAll.ofInts (ns : List Int) : DtAll K H (ns.map V.int) (ns.map .int) := DtAll.map (fun i => .int i) ns
/-- an item of a tuple of data -/
theorem Dt.item {v : V} {ds : List PyData} {i : Nat} {d : PyData} (h : Dt K H v (.tuple ds)) (e : ds[i]? = some d) : ∃ a xs w, v = .ref a ∧ SqT K H a xs ∧ xs[i]? = some w ∧ Dt K H w d := by
  obtain ⟨a, xs, rfl, hs, ha⟩ := h.tupE
  obtain ⟨w, h1, h2⟩ := ha.get e
  exact ⟨a, xs, w, rfl, hs, h1, h2⟩
end
/-! ### machines -/
structure Mac where
  steps : List (List Nat)
  start : Nat
  good : List Nat
def nD (n : Nat) : PyData := .int (n : Int)
def rowD (r : List Nat) : PyData := .tuple (r.map nD)
def macD (M : Mac) : PyData := .tuple [.tuple (M.steps.map rowD), nD M.start, rowD M.good]
structure MacOk (M : Mac) (n m : Nat) : Prop where
  len : M.steps.length = n
  row : ∀ r ∈ M.steps, r.length = m ∧ ∀ s ∈ r, s < n
  start : M.start < n
  good : ∀ s ∈ M.good, s < n
  asc : M.good.Pairwise (· < ·)
def iV (n : Nat) : V := .int (n : Int)
def spMachine (K : PySem.W.Frag) : Sp := fun vs H Q _ => ∃ (c : Int) (n m : Nat), vs = [.int c, .int (n : Int), .int (m : Int)] ∧ 1 ≤ n ∧ n ≤ 10 ∧ 1 ≤ m ∧ m ≤ 4 ∧
  ∀ (H' : Hp) (v : V) (M : Mac), Same H H' → Dt K H' v (macD M) → MacOk M n m → Q v H'
theorem cut_drop (xs : List V) (k : Nat) : cutV xs (some (k : Int)) none = xs.drop k := by
  unfold cutV
  rw [HT.sIx_nat, HT.sIx_none]
  by_cases h : k ≤ xs.length
  · rw [Nat.min_eq_left h]
    refine List.take_of_length_le ?_
    rw [List.length_drop]
    exact Nat.le_refl _
  · rw [Nat.min_eq_right (by omega), List.drop_eq_nil_of_le (Nat.le_refl _), List.drop_eq_nil_of_le (by omega), List.take_nil]
theorem menu8 {j : Nat} (h : j < 8) : ∃ d : Int, [V.int 1, V.int 2, V.int 4, V.int 8, V.int 16, V.int 32, V.int 64, V.int 125][j]? = some (.int d) ∧ 0 < d ∧ d < 1073741824 := by
  match j, h with
  | 0, _ => exact ⟨1, rfl, by decide, by decide⟩
  | 1, _ => exact ⟨2, rfl, by decide, by decide⟩
  | 2, _ => exact ⟨4, rfl, by decide, by decide⟩
  | 3, _ => exact ⟨8, rfl, by decide, by decide⟩
  | 4, _ => exact ⟨16, rfl, by decide, by decide⟩
  | 5, _ => exact ⟨32, rfl, by decide, by decide⟩
  | 6, _ => exact ⟨64, rfl, by decide, by decide⟩
  | 7, _ => exact ⟨125, rfl, by decide, by decide⟩
theorem nat_of {z c : Int} (h0 : 0 ≤ z) (h1 : z < c) : ∃ k : Nat, z = (k : Int) ∧ (k : Int) < c := ⟨z.toNat, by omega, by omega⟩
theorem ints_nat (r : List Nat) : (r.map iV) = (r.map fun n : Nat => (n : Int)).map V.int := by rw [List.map_map]; rfl
theorem ofNats {K : PySem.W.Frag} {H : Hp} (r : List Nat) : DtAll K H (r.map iV) (r.map nD) := DtAll.map (α := Nat) (f := iV) (g := nD) (fun n => .int (n : Int)) r
theorem nats_of {ms : List Int} {c : Int} (h : ∀ z ∈ ms, 0 ≤ z ∧ z < c) : ∃ r : List Nat, ms = r.map (fun n : Nat => (n : Int)) ∧ ∀ s ∈ r, (s : Int) < c := by
  refine ⟨ms.map Int.toNat, ?_, fun s hs => ?_⟩
  · rw [List.map_map]
    refine ((List.map_id ms).symm.trans (List.map_congr_left fun z hz => ?_))
    have := (h z hz).1
    show z = ((z.toNat : Nat) : Int)
    omega
  · obtain ⟨z, hz, rfl⟩ := List.mem_map.mp hs
    have := h z hz
    omega
/-! ### where words lead -/
def stepM (M : Mac) (s c : Nat) : Nat := (M.steps.getD s []).getD (c - 97) 0
def leadM (M : Mac) (s : Nat) (w : List Nat) : Nat := w.foldl (stepM M) s
def accM (M : Mac) (w : List Nat) : Bool := decide (leadM M M.start w ∈ M.good)
/-- codes of the first m letters -/
def isW (m : Nat) (w : List Nat) : Prop := ∀ c ∈ w, 97 ≤ c ∧ c < 97 + m
theorem isW.app {m : Nat} {u w : List Nat} (a : isW m u) (b : isW m w) : isW m (u ++ w) := fun c hc => (List.mem_append.mp hc).elim (a c) (b c)
theorem isW.take {m : Nat} {w : List Nat} (a : isW m w) (i : Nat) : isW m (w.take i) := fun c hc => a c (List.mem_of_mem_take hc)
theorem isW.rep {m : Nat} {w : List Nat} (a : isW m w) (k : Nat) : isW m (List.replicate k w).flatten := fun c hc => by
  obtain ⟨l, hl, hc⟩ := List.mem_flatten.mp hc
  rw [(List.mem_replicate.mp hl).2] at hc
  exact a c hc
theorem MacOk.rowAt {M : Mac} {n m s : Nat} (h : MacOk M n m) (hs : s < n) : (M.steps.getD s []).length = m ∧ ∀ t ∈ M.steps.getD s [], t < n := by
  have hs' : s < M.steps.length := by rw [h.len]; exact hs
  rw [List.getD_eq_getElem?_getD, List.getElem?_eq_getElem hs']
  exact h.row _ (List.getElem_mem hs')
theorem getD_mem {l : List Nat} {j : Nat} (h : j < l.length) : l.getD j 0 ∈ l := by
  rw [List.getD_eq_getElem?_getD, List.getElem?_eq_getElem h]
  exact List.getElem_mem h
theorem MacOk.step {M : Mac} {n m s c : Nat} (h : MacOk M n m) (hs : s < n) (h0 : 97 ≤ c) (h1 : c < 97 + m) : stepM M s c < n := by
  obtain ⟨hl, hr⟩ := h.rowAt hs
  exact hr _ (getD_mem (by rw [hl]; omega))
theorem leadM_lt {M : Mac} {n m : Nat} (h : MacOk M n m) : ∀ (w : List Nat) (s : Nat), s < n → isW m w → leadM M s w < n
  | [], s, hs, _ => hs
  | c :: w, s, hs, hw => leadM_lt h w _ (h.step hs (hw c List.mem_cons_self).1 (hw c List.mem_cons_self).2) fun d hd => hw d (List.mem_cons_of_mem _ hd)
theorem leadM_snoc (M : Mac) (s : Nat) (w : List Nat) (c : Nat) : leadM M s (w ++ [c]) = stepM M (leadM M s w) c := by
  unfold leadM
  rw [List.foldl_append]
  rfl
section
variable {K : PySem.W.Frag} {H : Hp}
theorem rowE {v : V} {r : List Nat} (h : Dt K H v (rowD r)) : ∃ p, v = .ref p ∧ SqT K H p (r.map iV) := by
  obtain ⟨p, xs, rfl, hs, ha⟩ := h.tupE
  refine ⟨p, rfl, ?_⟩
  have e : r.map nD = (r.map fun n : Nat => (n : Int)).map PyData.int := by rw [List.map_map]; rfl
  rw [e] at ha
  rw [ints_nat, ← ha.ints]
  exact hs
theorem macE {v : V} {M : Mac} (h : Dt K H v (macD M)) : ∃ a st gd vs, v = .ref a ∧ SqT K H a [.ref st, iV M.start, .ref gd] ∧ SqT K H st vs ∧ DtAll K H vs (M.steps.map rowD) ∧ SqT K H gd (M.good.map iV) := by
  obtain ⟨a, xs, rfl, hs, ha⟩ := h.tupE
  cases ha with
  | cons h1 t1 =>
  cases t1 with
  | cons h2 t2 =>
  cases t2 with
  | cons h3 t3 =>
  cases t3
  obtain ⟨st, vs, rfl, hst, hvs⟩ := h1.tupE
  obtain ⟨gd, rfl, hg⟩ := rowE h3
  have e := Dt.intE h2
  subst e
  exact ⟨a, st, gd, vs, rfl, hs, hst, hvs, hg⟩
theorem rowsE {vs : List V} {M : Mac} {s : Nat} (h : DtAll K H vs (M.steps.map rowD)) (hs : s < M.steps.length) : ∃ p, vs[s]? = some (.ref p) ∧ SqT K H p ((M.steps.getD s []).map iV) := by
  obtain ⟨w, h1, h2⟩ := h.get (i := s) (d := rowD M.steps[s]) (by rw [List.getElem?_map, List.getElem?_eq_getElem hs]; rfl)
  obtain ⟨p, rfl, hp⟩ := rowE h2
  refine ⟨p, h1, ?_⟩
  rw [List.getD_eq_getElem?_getD, List.getElem?_eq_getElem hs]
  exact hp
theorem at_nat {r : List Nat} {z : Int} {j : Nat} (e : z = (j : Int)) (h : j < r.length) : atI (r.map iV) z = some (iV (r.getD j 0)) := by
  refine at_of e ?_
  rw [List.getElem?_map, List.getD_eq_getElem?_getD, List.getElem?_eq_getElem h]
  rfl
end
theorem let_ix {c m : Nat} (h0 : 97 ≤ c) (h1 : c < 97 + m) (hm : m ≤ 4) : [97, 98, 99, 100][c - 97]? = some c := by
  have h : c = 97 ∨ c = 98 ∨ c = 99 ∨ c = 100 := by omega
  rcases h with rfl | rfl | rfl | rfl <;> rfl
theorem inV_nat (k : Nat) (g : List Nat) : inV (iV k) (g.map iV) = decide (k ∈ g) := by
  unfold inV
  rw [List.any_map]
  by_cases h : k ∈ g
  · rw [decide_eq_true h]
    exact List.any_eq_true.mpr ⟨k, h, by show ((k : Int) == (k : Int)) = true; exact beq_self_eq_true _⟩
  · rw [decide_eq_false h]
    refine List.any_eq_false.mpr fun y hy e => h ?_
    have e2 : ((y : Int) == (k : Int)) = true := e
    have e3 : (y : Int) = (k : Int) := eq_of_beq e2
    have : y = k := by omega
    rw [← this]; exact hy
theorem flat_nats (g : List Nat) : (g.map iV).all flatV = true := by
  refine List.all_eq_true.mpr fun x hx => ?_
  obtain ⟨n, _, rfl⟩ := List.mem_map.mp hx
  rfl
def spLead (K : PySem.W.Frag) : Sp := fun vs H Q _ => ∃ (v : V) (M : Mac) (n m s : Nat) (w : List Nat), vs = [v, iV s, sV w] ∧ Dt K H v (macD M) ∧ MacOk M n m ∧ m ≤ 4 ∧ s < n ∧ isW m w ∧ Q (iV (leadM M s w)) H
def spAcc (K : PySem.W.Frag) : Sp := fun vs H Q _ => ∃ (v : V) (M : Mac) (n m : Nat) (w : List Nat), vs = [v, sV w] ∧ Dt K H v (macD M) ∧ MacOk M n m ∧ m ≤ 4 ∧ isW m w ∧ Q (.bl (accM M w)) H
def abcdG (m : Nat) : List Nat := List.take m [97, 98, 99, 100]
theorem abcdG_len {m : Nat} (h : m ≤ 4) : (abcdG m).length = m := by
  unfold abcdG
  rw [List.length_take]
  exact Nat.min_eq_left h
def spLetters (K : PySem.W.Frag) : Sp := fun vs H Q _ => ∃ (v : V) (M : Mac) (n m : Nat), vs = [v] ∧ Dt K H v (macD M) ∧ MacOk M n m ∧ 1 ≤ n ∧ m ≤ 4 ∧ Q (sV (abcdG m)) H
def spWord (K : PySem.W.Frag) : Sp := fun vs H Q _ => ∃ (c : Int) (m : Nat), vs = [.int c, .int (m : Int)] ∧ 1 ≤ m ∧ m ≤ 4 ∧
  ∀ (H' : Hp) (w : List Nat), Same H H' → w.length ≤ 14 → isW m w → Q (sV w) H'
theorem foldl_signs : ∀ (cs : List Nat) (acc : Array Nat), (cs.map fun c => (⟨#[c]⟩ : Str)).foldl (fun acc p => acc ++ (⟨#[]⟩ : Str).cps ++ p.cps) acc = acc ++ cs.toArray
  | [], acc => by simp
  | c :: cs, acc => by
    rw [List.map_cons, List.foldl_cons, foldl_signs cs]
    apply Array.ext'
    simp
theorem join_signs (cs : List Nat) : Txt.join (Str.ofString "") (cs.map fun c => (⟨#[c]⟩ : Str)) = ⟨cs.toArray⟩ := by
  have e0 : Str.ofString "" = (⟨#[]⟩ : Str) := by decide +kernel
  rw [e0]
  cases cs with
  | nil => rfl
  | cons c cs =>
    show (⟨((cs.map fun c => (⟨#[c]⟩ : Str)).foldl (fun acc p => acc ++ (⟨#[]⟩ : Str).cps ++ p.cps) #[c])⟩ : Str) = ⟨(c :: cs).toArray⟩
    rw [foldl_signs]
    congr 1
    apply Array.ext'
    simp
theorem cutV_map {α : Type} (f : α → V) (xs : List α) (lo hi : Option Int) : ∃ ys : List α, cutV (xs.map f) lo hi = ys.map f ∧ ys.length ≤ xs.length ∧ ∀ y ∈ ys, y ∈ xs := by
  refine ⟨(xs.drop (HT.sIx (xs.map f).length 0 lo)).take (HT.sIx (xs.map f).length (xs.map f).length hi - HT.sIx (xs.map f).length 0 lo), ?_, ?_, fun y hy => List.mem_of_mem_drop (List.mem_of_mem_take hy)⟩
  · unfold cutV
    rw [List.map_take, List.map_drop]
  · rw [List.length_take, List.length_drop]
    omega
theorem r_in {K : PySem.W.Frag} {H : Hp} {Q : VK} {k : Nat} {g : List Nat} {p : Addr} (h : SqT K H p (g.map iV)) (q : Q (.bl (decide (k ∈ g))) H) : rIn K false (iV k) (.ref p) H Q := ⟨p, _, rfl, .inr h, rfl, flat_nats g, by rw [← inV_nat] at q; exact q⟩
section
variable {σ : L2.St} {H : Hp} {Q : VK} {K : PySem.W.Frag} {ta tb tc : TE}
def rInSg : R2 := fun x y H Q => ∃ (c : Nat) (z : Str), x = .str ⟨#[c]⟩ ∧ y = .str z ∧ Q (.bl (decide (c ∈ z.cps.toList))) H
def rNotInSg : R2 := fun x y H Q => ∃ (c : Nat) (z : Str), x = .str ⟨#[c]⟩ ∧ y = .str z ∧ Q (.bl (!decide (c ∈ z.cps.toList))) H
theorem op_inSg {X : Cx} : OpR X (compareOp .In) rInSg := op_in_sign
theorem op_notInSg {X : Cx} : OpR X (compareOp .NotIn) rNotInSg := op_notIn_sign
theorem r_inSg {c : Nat} {l : List Nat} (q : Q (.bl (decide (c ∈ l))) H) : rInSg (.str ⟨#[c]⟩) (.str ⟨l.toArray⟩) H Q := ⟨c, _, rfl, rfl, q⟩
theorem r_notInSg {c : Nat} {l : List Nat} (q : Q (.bl (!decide (c ∈ l))) H) : rNotInSg (.str ⟨#[c]⟩) (.str ⟨l.toArray⟩) H Q := ⟨c, _, rfl, rfl, q⟩
theorem r_chain {r r' : R2} (h : ta σ H fun x H1 => tb σ H1 fun y H2 => r x y H2 fun z H3 => ∃ k, z = .bl k ∧ if k = true then tc σ H3 fun w' H4 => r' y w' H4 Q else Q (.bl false) H3) : tChain r r' ta tb tc σ H Q := h
theorem r_slT {p : Addr} {xs : List V} {lo hi : Option Int} (h : SqT K H p xs) (c : ¬ (HT.sIx xs.length 0 lo = 0 ∧ HT.sIx xs.length xs.length hi = xs.length)) (q : ∀ l, H l = none → Q (.ref l) (upd H l (.tup (cutV xs lo hi)))) : rSlT K (.ref p) lo hi H Q := ⟨p, xs, rfl, h, c, q⟩
theorem r_any {p : Addr} {bs : List Bool} (h : SqL K H p (bs.map V.bl)) (q : Q (.bl (bs.any id)) H) : rAny K [.ref p] H Q := ⟨p, bs, rfl, h, q⟩
theorem r_eqD {x y : V} {d e : PyData} (h1 : Dp K H x d) (h2 : Dp K H y e) (s1 : SeqAt.shaped d = true) (s2 : SeqAt.shaped e = true) (q : Q (.bl (PyData.eqv d e)) H) : rEqD K x y H Q := ⟨d, e, h1, h2, s1, s2, q⟩
theorem r_neD {x y : V} {d e : PyData} (h1 : Dp K H x d) (h2 : Dp K H y e) (s1 : SeqAt.shaped d = true) (s2 : SeqAt.shaped e = true) (q : Q (.bl (!PyData.eqv d e)) H) : rNeD K x y H Q := ⟨d, e, h1, h2, s1, s2, q⟩
end
theorem lay_ints : ∀ A : List Int, PyData.canLayAll0 (A.map .int) = true
  | [] => rfl
  | a :: A => by
    have ih := lay_ints A
    simp [PyData.canLayAll0, PyData.canLay0] at ih ⊢
    exact ih
theorem eqv_ints_all : ∀ A B : List Int, PyData.eqvAll (A.map .int) (B.map .int) = decide (A = B)
  | [], [] => rfl
  | [], b :: B => rfl
  | a :: A, [] => rfl
  | a :: A, b :: B => by
    show (a == b && PyData.eqvAll (A.map .int) (B.map .int)) = _
    rw [eqv_ints_all A B]
    by_cases h : a = b
    · subst h
      by_cases h2 : A = B
      · subst h2; simp
      · simp [h2]
    · simp [h]
theorem depth_ints : ∀ A : List Int, PyData.depthAll (A.map .int) = 0
  | [] => rfl
  | a :: A => by
    have ih := depth_ints A
    show max 0 _ = 0
    rw [ih]
    rfl
theorem shaped_ints (A : List Int) : SeqAt.shaped (.list (A.map .int)) = true := by
  refine Bool.and_eq_true_iff.mpr ⟨lay_ints A, decide_eq_true ?_⟩
  show PyData.depthAll _ + 1 ≤ 64
  rw [depth_ints]
  decide
theorem eqv_lists (A B : List Int) : PyData.eqv (.list (A.map .int)) (.list (B.map .int)) = decide (A = B) := by
  rw [PyData.eqv]
  exact eqv_ints_all A B
theorem dp_ints {K : PySem.W.Frag} {H : Hp} {p : Addr} {A : List Int} (h : SqL K H p (A.map V.int)) : Dp K H (.ref p) (.list (A.map .int)) := .lst h (dpAll_map (fun i => .int i) A)
theorem cut_1 (xs : List V) : cutV xs (some 1) none = xs.drop 1 := cut_drop xs 1
theorem six_1 (n : Nat) : HT.sIx n 0 (some 1) = min 1 n := HT.sIx_nat n 0 1
/-- the ways behind a statement are joined: what holds there -/
theorem r_cutJ {t u : TS} {D : Ends} {σ : L2.St} {H : Hp} (J : L2.St → Hp → Prop) (key : ∀ σ H, J σ H → u D σ H) (h : (∀ σ H, J σ H → u D σ H) → t { D with nx := u D } σ H) : tSeq t u D σ H := h key
theorem six_m1 (n d : Nat) : HT.sIx n d (some (-1)) = n - 1 := by
  show (if (-1 : Int) < 0 then ((-1 : Int) + (n : Int)).toNat else min (-1 : Int).toNat n) = n - 1
  rw [if_pos (by decide)]
  omega
theorem cut_init (xs : List V) (y : V) : cutV (xs ++ [y]) none (some (-1)) = xs := by
  unfold cutV
  rw [HT.sIx_none, six_m1, List.length_append]
  simp
theorem cut_mid (xs : List V) (j : Nat) : (cutV xs (some (j : Int)) (some (-1))).length = xs.length - 1 - j := by
  unfold cutV
  rw [HT.sIx_nat, six_m1, List.length_take, List.length_drop]
  omega
theorem cut_to (xs : List V) (k : Nat) (h : k ≤ xs.length) : cutV xs none (some (k : Int)) = xs.take k := by
  unfold cutV
  rw [HT.sIx_none, HT.sIx_nat, Nat.min_eq_left h]
  rfl
theorem inV_int (k : Int) (g : List Int) : inV (.int k) (g.map V.int) = decide (k ∈ g) := by
  unfold inV
  rw [List.any_map]
  by_cases h : k ∈ g
  · rw [decide_eq_true h]
    exact List.any_eq_true.mpr ⟨k, h, by show (k == k) = true; exact beq_self_eq_true _⟩
  · rw [decide_eq_false h]
    refine List.any_eq_false.mpr fun y hy e => h ?_
    have e2 : (y == k) = true := e
    rw [← eq_of_beq e2]; exact hy
theorem flat_ints (g : List Int) : (g.map V.int).all flatV = true := by
  refine List.all_eq_true.mpr fun x hx => ?_
  obtain ⟨n, _, rfl⟩ := List.mem_map.mp hx
  rfl
section
variable {K : PySem.W.Frag} {H : Hp} {Q : VK} {p : Addr}
theorem r_inT {k : Int} {g : List Int} (h : SqT K H p (g.map V.int)) (q : Q (.bl (decide (k ∈ g))) H) : rIn K false (.int k) (.ref p) H Q := ⟨p, _, rfl, .inr h, rfl, flat_ints g, by rw [← inV_int] at q; exact q⟩
theorem r_inL {k : Int} {g : List Int} (h : SqL K H p (g.map V.int)) (q : Q (.bl (decide (k ∈ g))) H) : rIn K false (.int k) (.ref p) H Q := ⟨p, _, rfl, .inl h, rfl, flat_ints g, by rw [← inV_int] at q; exact q⟩
theorem mt_indexLK {X : Cx} (hK : X.K = K) : MtR X "list.index" (rIndex K) := hK ▸ mt_index
theorem r_indexL {k : Int} {g : List Int} (h : SqL K H p (g.map V.int)) (hk : k ∈ g) (q : Q (.int (g.idxOf k : Nat)) H) : rIndex K (.ref p) [.int k] H Q := by
  have hl := List.idxOf_lt_length_of_mem hk
  refine ⟨p, _, .int k, g.idxOf k, .int k, rfl, rfl, h, rfl, flat_ints g, ?_, ?_, fun m z' hm hz => ?_, q⟩
  · rw [List.getElem?_map, List.getElem?_eq_getElem hl, List.getElem_idxOf hl]
    rfl
  · show (k == k) = true
    exact beq_self_eq_true _
  · rw [List.getElem?_map] at hz
    obtain ⟨y, hy, rfl⟩ := Option.map_eq_some_iff.mp hz
    show (y == k) = false
    obtain ⟨hml, ey⟩ := List.getElem?_eq_some_iff.mp hy
    have := List.not_of_lt_findIdx (p := (· == k)) (xs := g) (i := m) hm
    rw [ey] at this
    simpa using this
theorem r_rep {l : Addr} {k : Int} {xs : List V} (h : H l = some (.lst xs)) (h0 : 0 ≤ k) (h1 : k ≤ 1000000) (hl : xs.length * k.toNat ≤ sizeLine) (q : ∀ p, H p = none → Q (.ref p) (upd H p (.lst (List.replicate k.toNat xs).flatten))) : rRep (.ref l) (.int k) H Q := ⟨l, k, xs, rfl, rfl, h, by omega, by omega, hl, q⟩
end
def sgD (c : Nat) : PyData := .str ⟨#[c]⟩
def sgV (c : Nat) : V := .str ⟨#[c]⟩
theorem lay_signs : ∀ A : List Nat, (∀ c ∈ A, c < 1000) → PyData.canLayAll0 (A.map sgD) = true
  | [], _ => rfl
  | a :: A, h => by
    have ih := lay_signs A fun c hc => h c (List.mem_cons_of_mem _ hc)
    have ha := h a List.mem_cons_self
    show (PyData.strOk ⟨#[a]⟩ && PyData.canLayAll0 (A.map sgD)) = true
    rw [ih, Bool.and_true]
    unfold PyData.strOk
    simp
    omega
theorem depth_signs : ∀ A : List Nat, PyData.depthAll (A.map sgD) = 0
  | [] => rfl
  | a :: A => by
    have ih := depth_signs A
    show max 0 _ = 0
    rw [ih]
    rfl
theorem shaped_signs {A : List Nat} (h : ∀ c ∈ A, c < 1000) : SeqAt.shaped (.list (A.map sgD)) = true := by
  refine Bool.and_eq_true_iff.mpr ⟨lay_signs A h, decide_eq_true ?_⟩
  show PyData.depthAll _ + 1 ≤ 64
  rw [depth_signs]
  decide
theorem eqv_signs_nil (A : List Nat) : PyData.eqv (.list (A.map sgD)) (.list []) = decide (A = []) := by
  rw [PyData.eqv]
  cases A <;> rfl
theorem dp_signs {K : PySem.W.Frag} {H : Hp} {p : Addr} {A : List Nat} (h : SqL K H p (A.map sgV)) : Dp K H (.ref p) (.list (A.map sgD)) := .lst h (dpAll_map (fun c => .str _) A)
end G
set_option Elab.async false
set_option linter.all false
set_option maxRecDepth 100000
set_option maxHeartbeats 4000000
namespace G
open PySem PySem.Spec PyProof.Rows L2
/-! enumerate of a tuple -/
theorem en_new (l : Addr) (items : Array Value) (n : Nat) (dct : Option Addr) (sl : Array (Option Value)) :
    Meets (Builtin.«enumerate.__new__» ⟨[.type "enumerate", .ref l], []⟩) (fun _ R s =>
      s.heap.get? l = some { cls := .type "tuple", dict := dct, data := .seq items n, slots := sl } ∧
      R (.ok (.ret (.ref (s.heap.push { cls := .type "tuple_iterator", data := .fields #[.ref l, .int 0 0] }).objs.size)))
        { s with heap := (s.heap.push { cls := .type "tuple_iterator", data := .fields #[.ref l, .int 0 0] }).push { cls := .type "enumerate", data := .fields #[.none, .bool false, .ref s.heap.objs.size, rawInt 0, .none, .none] } }) :=
  .of_wp fun prog w A R s h => by
    obtain ⟨hp, g, d, tk, os⟩ := s
    obtain ⟨hl, h⟩ := h
    have hsub := sub_enumerate
    have hT : Heap.IsTuple (Shared.heap ⟨hp, g, d, tk, os⟩) l items := ⟨_, hl, rfl, n, rfl⟩
    (wp_walk using AutoSeq1.wpAny_loadPart' hl); refine wpAny_stack_any fun st => wpAny_pure ?_; split
    · rename_i c _ _ _ _ _
      cases (c == Value.type "enumerate") <;> (wp_walk using AutoSeq1.wpAny_loadPart' hl, wpAny_pyIter_tuple hT) <;> exact ⟨_, rfl, h⟩
    · (wp_walk using AutoSeq1.wpAny_loadPart' hl, wpAny_pyIter_tuple hT); exact ⟨_, rfl, h⟩
section
variable {prog : Program} {w : World} {A : Around} {E : Value → Shared → Prop} {s : Shared}
theorem call_en {l : Addr} {items : Array Value} {Q : Value → Shared → Prop} (hL : s.heap.IsTuple l items)
    (h : ∀ h', IsEnum h' (s.heap.objs.size + 1) s.heap.objs.size 0 .none → h'.IsTupleIter s.heap.objs.size l 0 →
      h'.objs.size = s.heap.objs.size + 2 → (∀ b o, s.heap.get? b = some o → h'.get? b = some o) →
      Q (.ref (s.heap.objs.size + 1)) { s with heap := h' }) : wpAny (model prog w) A (call (.type "enumerate") [.ref l]) Q E s := by
  obtain ⟨⟨c, dct, dt, sl⟩, hl, hc, n, hd⟩ := hL
  obtain rfl : c = .type "tuple" := hc
  obtain rfl : dt = .seq items n := hd
  have hz : (s.heap.push { cls := .type "tuple_iterator", data := .fields #[.ref l, .int 0 0] }).objs.size = s.heap.objs.size + 1 := Heap.size_push ..
  have he := Heap.get?_push_size (s.heap.push { cls := .type "tuple_iterator", data := .fields #[.ref l, .int 0 0] })
    (o := { cls := .type "enumerate", data := .fields #[.none, .bool false, .ref s.heap.objs.size, rawInt 0, .none, .none] }) rfl
  rw [hz] at he
  refine callType_new F.called_enumerate (by decide) (F.typeCall_enumerate_1 _) (F.newCall_enumerate_1 _)
    (fun obj => F.args_object_init_2 obj _) F.entry_enumerate_new (en_new l items n dct sl) ⟨hl, ?_⟩
  show _ ∧ _
  rw [hz]
  refine ⟨⟨_, he, rfl⟩, h _ he ⟨{ cls := .type "tuple_iterator", data := .fields #[.ref l, .int 0 0] }, Heap.get?_push_of_some _ (Heap.get?_push_size _ rfl), rfl, rfl⟩ ?_ ?_⟩
  · rw [Heap.size_push, hz]
  · exact fun b o x => Heap.get?_push_of_some _ (Heap.get?_push_of_some _ x)
end
/-- the tuple at a: each item in a new pair -/
def ItT (K : PySem.W.Frag) (a : Addr) : It where
  go i H := ∃ (xs : List V) (x : V), SqT K H a xs ∧ xs[i]? = some x
  yld i H v H' := ∃ T x, v = .ref T ∧ H T = none ∧ H' = upd H T (.tup [.int (i : Nat), x]) ∧ ∀ xs, SqT K H a xs → xs[i]? = some x
  stop i H := ∃ xs : List V, SqT K H a xs ∧ xs.length = i
theorem turn_T {P : Program} {w : World} {K : PySem.W.Frag} {elts : List Expr} {kk : Nat} {tpos : Pos} (a e it : Addr) :
    Turn P w K (.Tuple elts kk tpos) (ItT K a) [e, it] e (fun i h => (∃ old, IsEnum h e it ((i : Nat) : Int) old) ∧ h.IsTupleIter it a i ∧ e ≠ it) where
  mem := List.mem_cons_self
  obj := by
    rintro i h ⟨⟨old, he⟩, ⟨o, ho, hc, hd⟩, _⟩ b hb
    rcases List.mem_cons.mp hb with rfl | hb
    · exact ⟨_, he, fun v q => nomatch q⟩
    · rw [List.mem_singleton.mp hb]
      exact ⟨o, ho, fun v q => by rw [hd] at q; cases q⟩
  keep := by
    rintro i h h' ⟨⟨old, he⟩, hi, hne⟩ k
    exact ⟨⟨old, k e List.mem_cons_self _ he⟩, hi.at fun o q => k it (List.mem_cons_of_mem _ List.mem_cons_self) o q, hne⟩
  item := by
    rintro X rfl rfl rfl hc i pins s σ H E I hf ⟨⟨old, he⟩, hit, hne⟩ ⟨xs, x, hq, hx⟩
    obtain ⟨its, rv, p, hz⟩ := I.tuple hq
    obtain ⟨u, hu, ru⟩ := rv.get hx
    have hel : e < s.heap.objs.size := Heap.lt_size he
    have hil : it < s.heap.objs.size := by obtain ⟨_, q, _⟩ := hit; exact Heap.lt_size q
    have hae : a ≠ it := fun z => by
      obtain ⟨oi, hoi, hci, _⟩ := hit
      obtain ⟨oa, hoa, hca, _⟩ := p
      rw [z, hoi] at hoa
      cases hoa
      rw [hci] at hca
      injection hca with hca
      exact absurd hca (by decide)
    have hae2 : e ∉ [it, a] := fun z => by
      rcases List.mem_cons.mp z with z | z
      · exact hne z
      · have z := List.mem_singleton.mp z
        obtain ⟨oa, hoa, hca, _⟩ := p
        rw [← z, he] at hoa
        cases hoa
        injection hca with hca
        exact absurd hca (by decide)
    have hh : X.A.in1.handled = none := I.ok.hd hc
    have hi : i < its.toArray.size := by
      have := (List.getElem?_eq_some_iff.mp hu).1
      simpa using this
    refine wpAny_pyNext_enum_itemD (Draws.tuple hh it a hae its.toArray) he ⟨hit, show s.heap.IsTuple a its.toArray from p⟩ hi hne hae2 ?_
    intro x2 h' tk hx2 ho hst hT hsz hk
    have ex : x2 = u := by
      have h3 : its[i]? = some x2 := by simpa using hx2
      rw [hu] at h3
      exact (Option.some.inj h3).symm
    subst ex
    refine ⟨_, rfl, wpAny_letOwnedTupleGo_enum (s := { s with heap := h', toks := tk + 1 }) ho fun h'' he' sb => ?_⟩
    have hT2 : h''.get? s.heap.objs.size = some { cls := .type "tuple", data := .seq #[.int i tk, x2] } := (sb.2 _ (Nat.ne_of_gt hel)).trans hT
    have new : ObjOk X.prog X.w (upd H s.heap.objs.size (.tup [.int (i : Nat), x])) h'' s.heap.objs.size (.tup [.int (i : Nat), x]) := by
      refine ⟨by show 2 ≤ sizeLine; decide, [.int i tk, x2], .cons ⟨_, rfl⟩ (.cons ru .nil), ⟨_, hT2, rfl, _, rfl⟩⟩
    have stays : ∀ b ob, b ∉ [e, it] → s.heap.get? b = some ob → h''.get? b = some ob := fun b ob hb q => by
      have h1 : b ≠ e := fun z => hb (by rw [z]; exact List.mem_cons_self)
      have h2 : b ≠ it := fun z => hb (by rw [z]; exact List.mem_cons_of_mem _ List.mem_cons_self)
      exact (sb.2 b h1).trans (hk b ob h1 h2 q)
    have I1 := I.turnedNew (t' := tk + 1) (ch := [e, it]) stays hf (Nat.le_refl _) new
    have e1 : ((i + 1 : Nat) : Int) = (i : Int) + 1 := Int.natCast_succ i
    refine ⟨.ref s.heap.objs.size, _, I1, rfl, ⟨_, x, rfl, I.hok.fresh (Nat.le_refl _), rfl, fun ys hy => ?_⟩, ⟨⟨x2, ?_⟩, ?_, hne⟩, fun b hb => ?_⟩
    · rw [I.tuple_inj hy hq]
      exact hx
    · rw [e1]
      exact he'
    · exact hst.1.at fun o q => (sb.2 it (Ne.symm hne)).trans q
    · have hb' : b < s.heap.objs.size := by
        rcases List.mem_cons.mp hb with z | z
        · rw [z]; exact hel
        · rw [List.mem_singleton.mp z]; exact hil
      rw [upd_ne (Nat.ne_of_lt hb')]
      exact (hf b hb).1
  done := by
    rintro X rfl rfl rfl hc i pins s σ H E I hf ⟨⟨old, he⟩, hit, hne⟩ ⟨xs, hq, hx⟩
    obtain ⟨its, rv, p, hz⟩ := I.tuple hq
    obtain ⟨f0, f1, f2, f3, f4, f5⟩ := hf it (List.mem_cons_of_mem _ List.mem_cons_self)
    have hl := rv.length
    have hh : X.A.in1.handled = none := I.ok.hd hc
    have hae : a ≠ it := fun z => by
      obtain ⟨oi, hoi, hci, _⟩ := hit
      obtain ⟨oa, hoa, hca, _⟩ := p
      rw [z, hoi] at hoa
      cases hoa
      rw [hci] at hca
      injection hca with hca
      exact absurd hca (by decide)
    have ei : i = its.toArray.size := by rw [List.size_toArray, ← hl, hx]
    rw [ei] at hit
    exact wpAny_pyNext_enum_endD (Draws.tuple hh it a hae its.toArray) he ⟨hit, show s.heap.IsTuple a its.toArray from p⟩ fun h' eb =>
      ⟨rfl, I.turned (t' := s.toks) (fun b o hb q => eb b o hb q) f0 f1 f3 f4 f5⟩
  self := fun A i s Q E st h => by
    obtain ⟨⟨_, he⟩, _⟩ := st
    exact wpAny_pyIter_enum he h
def iEnumT (K : PySem.W.Frag) (ta : TA) : TI := fun σ H R => ta σ H fun vs H1 => ∃ a xs, vs = [.ref a] ∧ SqT K H1 a xs ∧ R (ItT K a) H1
theorem pi_enumT {X : Cx} {K : PySem.W.Frag} {e : Expr} {ta : TA} {p pos tpos : Pos} {elts : List Expr} {kk : Nat} (hK : X.K = K) (hg : Gl X "enumerate") (hm : X.mg "enumerate" = none) (ha : PA X [e] ta)
    (hs : starEach [e] X.env = [(false, eval e X.env)] := by rfl) : PI X (.Tuple elts kk tpos) (.Call (.Name "enumerate" p) [e] [] pos) (iEnumT K ta) := by
  subst hK
  constructor
  intro pins s σ H R I h
  refine Call_ (ld_blt I hg hm boot_enumerate (callWith_type1 (thn (ha.run pos pins s σ H _ I h) ?_) hs rfl))
  rintro us s1 ⟨vs, H1, I1, r1, a, xs, rfl, hq, q⟩
  obtain ⟨u, rfl, ru⟩ := vals1 r1
  cases ru
  obtain ⟨its, rv, p', hz⟩ := I1.tuple hq
  refine call_en (show s1.heap.IsTuple a its.toArray from p') fun h' he hit hsz hk => wpAny_pyIter_enum he ?_
  have I2 : Inv X pins σ H1 { s1 with heap := h' } := I1.kept (t' := s1.toks) hk
  refine ⟨_, [s1.heap.objs.size + 1, s1.heap.objs.size], _, _, H1, rfl, I2, turn_T a (s1.heap.objs.size + 1) s1.heap.objs.size, ⟨⟨.none, he⟩, hit, Nat.succ_ne_self _⟩, fun b hb => ?_, q⟩
  have hle : s1.heap.objs.size ≤ b := by
    rcases List.mem_cons.mp hb with z | z
    · rw [z]; exact Nat.le_add_right _ _
    · rw [List.mem_singleton.mp z]; exact Nat.le_refl _
  exact I1.fpOk hle (I1.hok.fresh hle)
/-- the loop over such pairs, i and x given to two names -/
theorem for_enT {K : PySem.W.Frag} {a : Addr} {xs : List V} {g : TG} {tb : TS} {D : Ends} {σ : L2.St} {H : Hp} (Pv : Nat → L2.St → Hp → Prop) (h0 : Pv 0 σ H) (hl : ∀ i σ H, i ≤ xs.length → Pv i σ H → SqT K H a xs)
    (hs : ∀ i x σ H T, xs[i]? = some x → Pv i σ H → H T = none → g (.ref T) σ (upd H T (.tup [.int (i : Nat), x])) fun σ2 H2 => tb { D with nx := Pv (i + 1), ct := Pv (i + 1), bk := D.nx } σ2 H2) (hd : ∀ σ H, Pv xs.length σ H → D.nx σ H) :
    ∃ W : Nat → Nat → L2.St → Hp → Prop, (∃ m, W 0 m σ H) ∧ ∀ i m σ H, W i m σ H → ((ItT K a).stop i H ∧ D.nx σ H) ∨
      ((ItT K a).go i H ∧ ∃ N : L2.St → Hp → Prop, (∀ σ' H', N σ' H' → ∃ m', m' < m ∧ W (i + 1) m' σ' H') ∧ ∀ x H', (ItT K a).yld i H x H' → g x σ H' fun σ2 H2 => tb { D with nx := N, ct := N, bk := D.nx } σ2 H2) := by
  refine ⟨fun i m σ H => m + i = xs.length ∧ Pv i σ H, ⟨xs.length, rfl, h0⟩, ?_⟩
  rintro i m σ H ⟨hm, p⟩
  have q := hl i σ H (by omega) p
  by_cases hlt : i < xs.length
  · refine .inr ⟨⟨xs, xs[i], q, List.getElem?_eq_getElem hlt⟩, Pv (i + 1), fun σ' H' p' => ⟨m - 1, by omega, by omega, p'⟩, ?_⟩
    rintro v H' ⟨T, x, rfl, hT, rfl, hx⟩
    exact hs i x σ H T (hx xs q) p hT
  · have e : i = xs.length := by omega
    subst e
    exact .inl ⟨⟨xs, q, rfl⟩, hd σ H p⟩
end G
set_option Elab.async false
set_option linter.all false
set_option maxRecDepth 100000
set_option maxHeartbeats 4000000
namespace G
open PySem PySem.Spec PyProof.Rows L2
section
variable {X : Cx} {H : Hp} {Q : VK}
def rLcm : List V → Hp → VK → Prop := fun xs H Q => ∃ a b : Nat, xs = [.int (a : Int), .int (b : Int)] ∧ a < 2 ^ 64 ∧ b < 2 ^ 64 ∧ Q (.int ((Nat.lcm a b : Nat) : Int)) H
theorem call_lcm : CallR X (.builtin "math.lcm") rLcm := by
  intro pins s σ H vs us Q I r h
  obtain ⟨a, b, rfl, ha, hb, q⟩ := h
  obtain ⟨t, u, rfl⟩ := Vals.int2 r
  exact PySem.W.mc_lcm (by rw [Int.natAbs_natCast]; exact ha) (by rw [Int.natAbs_natCast]; exact hb) fun _ => ⟨.int _, H, I.tok _, ⟨_, rfl⟩, q⟩
end
/-! ### permutations -/
structure Perm (n : Nat) (p : List Nat) : Prop where
  len : p.length = n
  lt : ∀ x ∈ p, x < n
  nd : p.Nodup
def at0 (p : List Nat) (i : Nat) : Nat := p.getD i 0
def thenN (p q : List Nat) : List Nat := p.map (at0 q)
def idN (n : Nat) : List Nat := List.range n
def itr (p : List Nat) : Nat → Nat → Nat
  | 0, i => i
  | k + 1, i => at0 p (itr p k i)
def pw (p : List Nat) : Nat → List Nat
  | 0 => idN p.length
  | k + 1 => thenN (pw p k) p
theorem at0_some {p : List Nat} {i : Nat} (h : i < p.length) : p[i]? = some (at0 p i) := by
  unfold at0
  rw [List.getD_eq_getElem?_getD, List.getElem?_eq_getElem h]; rfl
theorem Perm.at_lt {n i : Nat} {p : List Nat} (h : Perm n p) (hi : i < n) : at0 p i < n := h.lt _ (List.mem_of_getElem? (at0_some (by rw [h.len]; exact hi)))
theorem Perm.inj {n i j : Nat} {p : List Nat} (h : Perm n p) (hi : i < n) (hj : j < n) (e : at0 p i = at0 p j) : i = j := by
  have h1 := at0_some (p := p) (i := i) (by rw [h.len]; exact hi)
  have h2 := at0_some (p := p) (i := j) (by rw [h.len]; exact hj)
  rw [e] at h1
  exact nd_ix h.nd h1 h2
theorem Perm.itr_lt {n : Nat} {p : List Nat} (h : Perm n p) : ∀ k i, i < n → itr p k i < n
  | 0, _, hi => hi
  | k + 1, i, hi => h.at_lt (Perm.itr_lt h k i hi)
theorem itr_add (p : List Nat) (a : Nat) : ∀ b i, itr p (a + b) i = itr p b (itr p a i)
  | 0, _ => rfl
  | b + 1, i => by
    show at0 p (itr p (a + b) i) = at0 p (itr p b (itr p a i))
    rw [itr_add p a b i]
theorem Perm.itr_inj {n : Nat} {p : List Nat} (h : Perm n p) : ∀ k i j, i < n → j < n → itr p k i = itr p k j → i = j
  | 0, _, _, _, _, e => e
  | k + 1, i, j, hi, hj, e => Perm.itr_inj h k i j hi hj (h.inj (h.itr_lt k i hi) (h.itr_lt k j hj) e)
theorem pw_len (p : List Nat) : ∀ k, (pw p k).length = p.length
  | 0 => List.length_range
  | k + 1 => by
    show ((pw p k).map (at0 p)).length = _
    rw [List.length_map, pw_len p k]
theorem pw_at (p : List Nat) {i : Nat} (hi : i < p.length) : ∀ k, (pw p k)[i]? = some (itr p k i)
  | 0 => List.getElem?_range hi
  | k + 1 => by
    show ((pw p k).map (at0 p))[i]? = _
    rw [List.getElem?_map, pw_at p hi k]
    rfl
theorem pw_id (p : List Nat) (k : Nat) : pw p k = idN p.length ↔ ∀ i, i < p.length → itr p k i = i := by
  constructor
  · intro e i hi
    have h1 := pw_at p hi k
    rw [e] at h1
    have h2 : (idN p.length)[i]? = some i := List.getElem?_range hi
    rw [h1] at h2
    exact Option.some.inj h2
  · intro hall
    apply List.ext_getElem?
    intro i
    by_cases hi : i < p.length
    · rw [pw_at p hi k, hall i hi]
      exact (List.getElem?_range hi).symm
    · rw [List.getElem?_eq_none (by rw [pw_len]; omega), List.getElem?_eq_none (by unfold idN; rw [List.length_range]; omega)]
theorem pw_one {n : Nat} {p : List Nat} (h : Perm n p) : pw p 1 = p := by
  apply List.ext_getElem?
  intro i
  by_cases hi : i < p.length
  · rw [pw_at p hi 1, at0_some hi]
    rfl
  · rw [List.getElem?_eq_none (by rw [pw_len]; omega), List.getElem?_eq_none (by omega)]
/-- how long it takes place i to come back -/
def IsCyc (p : List Nat) (i L : Nat) : Prop := 1 ≤ L ∧ itr p L i = i ∧ ∀ k, 1 ≤ k → k < L → itr p k i ≠ i
theorem nodup_le : ∀ {ks ns : List Nat}, ks.Nodup → (∀ k ∈ ks, k ∈ ns) → ks.length ≤ ns.length
  | [], _, _, _ => Nat.zero_le _
  | k :: ks, ns, nd, h => by
    have hk : k ∈ ns := h k List.mem_cons_self
    have nd' := List.nodup_cons.mp nd
    have hs : ∀ x ∈ ks, x ∈ ns.erase k := fun x hx => by
      have hne : x ≠ k := fun e => nd'.1 (e ▸ hx)
      exact (List.mem_erase_of_ne hne).mpr (h x (List.mem_cons_of_mem _ hx))
    have ih := nodup_le nd'.2 hs
    rw [List.length_erase_of_mem hk] at ih
    have := List.length_pos_of_mem hk
    rw [List.length_cons]
    omega
theorem least_of {P : Nat → Prop} : ∀ n, (∃ k, 1 ≤ k ∧ k ≤ n ∧ P k) → ∃ L, 1 ≤ L ∧ L ≤ n ∧ P L ∧ ∀ k, 1 ≤ k → k < L → ¬ P k
  | 0, ⟨k, h1, h2, _⟩ => absurd h1 (by omega)
  | n + 1, ⟨k, h1, h2, hp⟩ => by
    by_cases hn : ∃ k, 1 ≤ k ∧ k ≤ n ∧ P k
    · obtain ⟨L, a, b, c, d⟩ := least_of n hn
      exact ⟨L, a, by omega, c, d⟩
    · have e : k = n + 1 := by
        by_cases hk : k ≤ n
        · exact absurd ⟨k, h1, hk, hp⟩ hn
        · omega
      subst e
      exact ⟨n + 1, h1, Nat.le_refl _, hp, fun j j1 j2 pj => hn ⟨j, j1, by omega, pj⟩⟩
theorem Perm.cyc {n i : Nat} {p : List Nat} (h : Perm n p) (hi : i < n) : ∃ L, L ≤ n ∧ IsCyc p i L := by
  have hex : ∃ k, 1 ≤ k ∧ k ≤ n ∧ itr p k i = i := by
    by_cases hh : ∃ k, 1 ≤ k ∧ k ≤ n ∧ itr p k i = i
    · exact hh
    · exfalso
      have nd : ((List.range (n + 1)).map fun k => itr p k i).Nodup := by
        refine List.pairwise_iff_getElem.mpr fun a b ha hb hab e => ?_
        rw [List.length_map, List.length_range] at ha hb
        rw [List.getElem_map, List.getElem_map, List.getElem_range, List.getElem_range] at e
        have e2 : itr p b i = itr p a (itr p (b - a) i) := by rw [← itr_add]; congr 1; omega
        rw [e2] at e
        exact hh ⟨b - a, by omega, by omega, (h.itr_inj a _ _ hi (h.itr_lt _ _ hi) e).symm⟩
      have := nodup_le (ns := List.range n) nd (fun k hk => by
        obtain ⟨j, _, rfl⟩ := List.mem_map.mp hk
        exact List.mem_range.mpr (h.itr_lt _ _ hi))
      rw [List.length_map, List.length_range, List.length_range] at this
      omega
  obtain ⟨L, a, b, c, d⟩ := least_of n hex
  exact ⟨L, b, a, c, d⟩
theorem cyc_mul {p : List Nat} {i L : Nat} (h : itr p L i = i) : ∀ m, itr p (L * m) i = i
  | 0 => rfl
  | m + 1 => by rw [Nat.mul_succ, Nat.add_comm, itr_add, h, cyc_mul h m]
theorem IsCyc.dvd {p : List Nat} {i L k : Nat} (h : IsCyc p i L) : itr p k i = i ↔ L ∣ k := by
  constructor
  · intro e
    have hm : itr p (k % L) i = i := by
      have e2 : itr p k i = itr p (k % L) (itr p (L * (k / L)) i) := by rw [← itr_add, Nat.div_add_mod]
      rw [cyc_mul h.2.1] at e2
      rw [← e2, e]
    by_cases hz : k % L = 0
    · exact Nat.dvd_of_mod_eq_zero hz
    · exact absurd hm (h.2.2 _ (by omega) (Nat.mod_lt _ h.1))
  · rintro ⟨m, rfl⟩
    exact cyc_mul h.2.1 m
/-! lcm of a list -/
def lcmL (l : List Nat) : Nat := l.foldl Nat.lcm 1
theorem foldl_lcm_dvd : ∀ (l : List Nat) (a k : Nat), l.foldl Nat.lcm a ∣ k ↔ a ∣ k ∧ ∀ x ∈ l, x ∣ k
  | [], a, k => by simp
  | x :: l, a, k => by
    rw [List.foldl_cons, foldl_lcm_dvd l (Nat.lcm a x) k]
    constructor
    · rintro ⟨h1, h2⟩
      refine ⟨Nat.dvd_trans (Nat.dvd_lcm_left a x) h1, fun y hy => ?_⟩
      rcases List.mem_cons.mp hy with rfl | hy
      · exact Nat.dvd_trans (Nat.dvd_lcm_right a y) h1
      · exact h2 y hy
    · rintro ⟨h1, h2⟩
      exact ⟨Nat.lcm_dvd h1 (h2 x List.mem_cons_self), fun y hy => h2 y (List.mem_cons_of_mem _ hy)⟩
theorem lcmL_dvd (l : List Nat) (k : Nat) : lcmL l ∣ k ↔ ∀ x ∈ l, x ∣ k := by
  unfold lcmL
  rw [foldl_lcm_dvd]
  exact ⟨fun h => h.2, fun h => ⟨Nat.one_dvd k, h⟩⟩
theorem lcmL_pos : ∀ {l : List Nat}, (∀ x ∈ l, 1 ≤ x) → 1 ≤ lcmL l := by
  have gen : ∀ (l : List Nat) (a : Nat), 1 ≤ a → (∀ x ∈ l, 1 ≤ x) → 1 ≤ l.foldl Nat.lcm a := by
    intro l
    induction l with
    | nil => intro a ha _; exact ha
    | cons x l ih =>
      intro a ha h
      rw [List.foldl_cons]
      exact ih _ (Nat.lcm_pos ha (h x List.mem_cons_self)) fun y hy => h y (List.mem_cons_of_mem _ hy)
  intro l h
  exact gen l 1 (Nat.le_refl _) h
/-! at most 20 for nine places: distinct lengths take different places -/
theorem count_sum : ∀ (l S : List Nat), S.Nodup → (S.map fun x => l.count x).sum ≤ l.length
  | [], S, nd => by
    have : (S.map fun x => ([] : List Nat).count x).sum = 0 := by
      clear nd
      induction S with
      | nil => rfl
      | cons s S ih =>
        rw [List.map_cons, List.sum_cons, ih]
        rfl
    rw [this]; exact Nat.zero_le _
  | y :: l, S, nd => by
    have ih := count_sum l S nd
    have h1 : ∀ S : List Nat, S.Nodup → (S.map fun x => (y :: l).count x).sum ≤ (S.map fun x => l.count x).sum + (if y ∈ S then 1 else 0) := by
      intro S
      induction S with
      | nil => intro _; simp
      | cons s S ihs =>
        intro nd
        have nd' := List.nodup_cons.mp nd
        have := ihs nd'.2
        rw [List.map_cons, List.sum_cons, List.map_cons, List.sum_cons, List.count_cons]
        by_cases e : y = s
        · subst e
          rw [if_neg nd'.1] at this
          rw [if_pos List.mem_cons_self]
          simp only [beq_self_eq_true, if_true]
          omega
        · have e2 : (y == s) = false := by simpa using e
          rw [e2]
          have e3 : (y ∈ s :: S) ↔ y ∈ S := by simp [e]
          simp only [e3, Bool.false_eq_true, if_false]
          omega
    have h2 := h1 S nd
    rw [List.length_cons]
    by_cases hy : y ∈ S
    · rw [if_pos hy] at h2; omega
    · rw [if_neg hy] at h2; omega
theorem small_lcm (q : Nat → Bool) (h0 : q 0 = false) (h : ((List.range 10).filter q).sum ≤ 9) : lcmL ((List.range 10).filter q) ≤ 99 := by
  have e : List.range 10 = [0, 1, 2, 3, 4, 5, 6, 7, 8, 9] := by decide
  rw [e] at h ⊢
  simp only [List.filter_cons, List.filter_nil, h0] at h ⊢
  generalize q 1 = b1 at h ⊢
  generalize q 2 = b2 at h ⊢
  generalize q 3 = b3 at h ⊢
  generalize q 4 = b4 at h ⊢
  generalize q 5 = b5 at h ⊢
  generalize q 6 = b6 at h ⊢
  generalize q 7 = b7 at h ⊢
  generalize q 8 = b8 at h ⊢
  generalize q 9 = b9 at h ⊢
  revert b1 b2 b3 b4 b5 b6 b7 b8 b9
  decide +kernel
theorem Perm.order_small {n : Nat} {p Ls : List Nat} (h : Perm n p) (hn : n ≤ 9) (hl : Ls.length = n) (hc : ∀ i, i < n → IsCyc p i (at0 Ls i)) : lcmL Ls ≤ 99 := by
  have mem : ∀ x ∈ Ls, ∃ i, i < n ∧ at0 Ls i = x := fun x hx => by
    obtain ⟨i, hi⟩ := List.mem_iff_getElem?.mp hx
    have hil := (List.getElem?_eq_some_iff.mp hi).1
    rw [at0_some hil] at hi
    exact ⟨i, by omega, Option.some.inj hi⟩
  -- the places on the way of i have its length
  have cnt : ∀ x ∈ Ls, x ≤ Ls.count x := fun x hx => by
    obtain ⟨i, hi, ex⟩ := mem x hx
    have hci := hc i hi
    rw [ex] at hci
    have same : ∀ k, at0 Ls (itr p k i) = x := fun k => by
      have hj := h.itr_lt k i hi
      have hcj := hc _ hj
      have d1 : at0 Ls (itr p k i) ∣ x := by
        rw [← hcj.dvd, ← itr_add, Nat.add_comm, itr_add, hci.2.1]
      have d2 : x ∣ at0 Ls (itr p k i) := by
        rw [← hci.dvd]
        refine h.itr_inj k _ _ (h.itr_lt _ _ hi) hi ?_
        rw [← itr_add, Nat.add_comm, itr_add]
        exact hcj.2.1
      exact Nat.dvd_antisymm d1 d2
    have nd : ((List.range x).map fun k => itr p k i).Nodup := by
      refine List.pairwise_iff_getElem.mpr fun a b ha hb hab e => ?_
      rw [List.length_map, List.length_range] at ha hb
      rw [List.getElem_map, List.getElem_map, List.getElem_range, List.getElem_range] at e
      have e2 : itr p b i = itr p a (itr p (b - a) i) := by rw [← itr_add]; congr 1; omega
      rw [e2] at e
      exact hci.2.2 (b - a) (by omega) (by omega) (h.itr_inj a _ _ hi (h.itr_lt _ _ hi) e).symm
    have hle := nodup_le (ns := (List.range n).filter fun j => at0 Ls j == x) nd (fun j hj => by
      obtain ⟨k, _, rfl⟩ := List.mem_map.mp hj
      refine List.mem_filter.mpr ⟨List.mem_range.mpr (h.itr_lt k i hi), ?_⟩
      rw [same k]; exact beq_self_eq_true _)
    rw [List.length_map, List.length_range] at hle
    have eL : Ls = (List.range n).map (at0 Ls) := by
      apply List.ext_getElem?
      intro j
      by_cases hj : j < n
      · rw [at0_some (by omega), List.getElem?_map, List.getElem?_range hj]; rfl
      · rw [List.getElem?_eq_none (by omega), List.getElem?_eq_none (by rw [List.length_map, List.length_range]; omega)]
    have e3 : Ls.count x = ((List.range n).filter fun j => at0 Ls j == x).length := by
      rw [List.count_eq_countP]
      conv => lhs; rw [eL]
      rw [List.countP_map, List.countP_eq_length_filter]
      rfl
    omega
  have pos : ∀ x ∈ Ls, 1 ≤ x := fun x hx => by
    obtain ⟨i, hi, ex⟩ := mem x hx
    rw [← ex]; exact (hc i hi).1
  have bnd : ∀ x ∈ Ls, x ≤ 9 := fun x hx => by
    have := cnt x hx
    have := List.count_le_length (a := x) (l := Ls)
    omega
  have ndS : ((List.range 10).filter fun x => decide (x ∈ Ls)).Nodup := (List.nodup_range.sublist List.filter_sublist)
  have s1 := count_sum Ls _ ndS
  have s2 : ((List.range 10).filter fun x => decide (x ∈ Ls)).sum ≤ (((List.range 10).filter fun x => decide (x ∈ Ls)).map fun x => Ls.count x).sum := by
    have gen : ∀ S : List Nat, (∀ x ∈ S, x ≤ Ls.count x) → S.sum ≤ (S.map fun x => Ls.count x).sum := by
      intro S
      induction S with
      | nil => intro _; exact Nat.le_refl _
      | cons s S ih =>
        intro hS
        rw [List.map_cons, List.sum_cons, List.sum_cons]
        have := hS s List.mem_cons_self
        have := ih fun x hx => hS x (List.mem_cons_of_mem _ hx)
        omega
    exact gen _ fun x hx => cnt x (of_decide_eq_true (List.mem_filter.mp hx).2)
  have h3 := small_lcm (fun x => decide (x ∈ Ls)) (decide_eq_false fun h0 => absurd (pos 0 h0) (by omega)) (by omega)
  refine Nat.le_trans (Nat.le_of_dvd ?_ ?_) h3
  · exact lcmL_pos fun x hx => pos x (of_decide_eq_true (List.mem_filter.mp hx).2)
  · rw [lcmL_dvd]
    intro x hx
    have hm : x ∈ (List.range 10).filter fun x => decide (x ∈ Ls) := List.mem_filter.mpr ⟨List.mem_range.mpr (by have := bnd x hx; omega), decide_eq_true hx⟩
    exact (lcmL_dvd _ _).mp (Nat.dvd_refl _) x hm
/-- the order: the least power that leads each place to itself -/
theorem Perm.order {n : Nat} {p Ls : List Nat} (h : Perm n p) (hl : Ls.length = n) (hc : ∀ i, i < n → IsCyc p i (at0 Ls i)) : 1 ≤ lcmL Ls ∧ pw p (lcmL Ls) = idN n ∧ ∀ k, 1 ≤ k → k < lcmL Ls → pw p k ≠ idN n := by
  have key : ∀ k, pw p k = idN n ↔ lcmL Ls ∣ k := fun k => by
    have e : idN n = idN p.length := by rw [h.len]
    rw [e, pw_id, lcmL_dvd, h.len]
    constructor
    · intro hall x hx
      obtain ⟨i, hi⟩ := List.mem_iff_getElem?.mp hx
      have hil := (List.getElem?_eq_some_iff.mp hi).1
      rw [at0_some hil] at hi
      rw [← Option.some.inj hi]
      exact (hc i (by omega)).dvd.mp (hall i (by omega))
    · intro hall i hi
      exact (hc i hi).dvd.mpr (hall _ (List.mem_of_getElem? (at0_some (by omega))))
  have pos : ∀ x ∈ Ls, 1 ≤ x := fun x hx => by
    obtain ⟨i, hi⟩ := List.mem_iff_getElem?.mp hx
    have hil := (List.getElem?_eq_some_iff.mp hi).1
    rw [at0_some hil] at hi
    rw [← Option.some.inj hi]
    exact (hc i (by omega)).1
  refine ⟨lcmL_pos pos, (key _).mpr (Nat.dvd_refl _), fun k h1 h2 e => ?_⟩
  have := Nat.le_of_dvd (by omega) ((key k).mp e)
  omega
end G
set_option Elab.async false
set_option linter.all false
set_option maxRecDepth 100000
set_option maxHeartbeats 4000000
namespace G
open PySem PySem.Spec PyProof.Rows L2
section
variable {X : Cx} {K : PySem.W.Frag} {H : Hp} {Q : VK}
def rIdxT (K : PySem.W.Frag) : V → List V → Hp → VK → Prop := fun x xs H Q => ∃ (p : Addr) (g : List Int) (k : Int), x = .ref p ∧ xs = [.int k] ∧ SqT K H p (g.map V.int) ∧ k ∈ g ∧ Q (.int (g.idxOf k : Nat)) H
theorem mt_indexT (hK : X.K = K) : MtR X "tuple.index" (rIdxT K) := by
  subst hK
  intro pins s σ H x xs v us Q I rx rs h
  obtain ⟨p, g, k, rfl, rfl, hq, hk, q⟩ := h
  cases rx
  obtain ⟨u, rfl, t, rfl⟩ := vals1 rs
  obtain ⟨its, r, ⟨⟨cls, dd, dt, sl⟩, ho, hc, n, hd⟩, hz⟩ := I.tuple hq
  obtain rfl : cls = .type "tuple" := hc
  obtain rfl : dt = .seq its.toArray n := hd
  have hl : its.toArray.size = g.length := by rw [List.size_toArray, ← r.length, List.length_map]
  have hj := List.idxOf_lt_length_of_mem hk
  have there : ∀ (m : Nat) (hm : m < its.toArray.size), ∃ t', its.toArray[m] = Value.int (g.getD m 0) t' := fun m hm => by
    have hm' : m < g.length := by omega
    obtain ⟨w, hw, t', hw'⟩ := r.get (i := m) (x := .int (g.getD m 0)) (by rw [List.getElem?_map, List.getD_eq_getElem?_getD, List.getElem?_eq_getElem hm']; rfl)
    refine ⟨t', ?_⟩
    have e := (List.getElem?_eq_some_iff.mp hw).2
    rw [← hw', ← e]
    simp
  have eqs : ∀ w, w ∈ its.toArray → SeqAt.EqAt X.A.in1 s w (.int k t) (eqU (.int k) w) := fun w hw =>
    mem_eqAt (x := .int k) ⟨t, rfl⟩ rfl r (flat_ints g) w (by simpa using hw)
  refine call_meets PySem.F.slot_tuple_index ⟨_, ho, rfl⟩ PySem.F.entry_tuple_index (PySem.F.args_tuple_index_2 _ _)
    (TI.tuple_indexAt p its.toArray n dd sl (.int k t) (eqU (.int k)) (g.idxOf k) (by omega) ?_ ?_) ⟨ho, eqs, ⟨.int _, H, I.tok _, ⟨_, rfl⟩, q⟩⟩
  · obtain ⟨t', h2⟩ := there (g.idxOf k) (by omega)
    rw [h2]
    show (g.getD (g.idxOf k) 0 == k) = true
    rw [List.getD_eq_getElem?_getD, List.getElem?_eq_getElem hj, List.getElem_idxOf hj]
    exact beq_self_eq_true k
  · intro m hm hmj
    obtain ⟨t', h2⟩ := there m hm
    rw [h2]
    show (g.getD m 0 == k) = false
    have hm' : m < g.length := by omega
    have := List.not_of_lt_findIdx (p := (· == k)) (xs := g) (i := m) hmj
    rw [List.getD_eq_getElem?_getD, List.getElem?_eq_getElem hm']
    simpa using this
theorem r_idxT {p : Addr} {g : List Int} {k : Int} (h : SqT K H p (g.map V.int)) (hk : k ∈ g) (q : Q (.int (g.idxOf k : Nat)) H) : rIdxT K (.ref p) [.int k] H Q := ⟨p, g, k, rfl, rfl, h, hk, q⟩
end
theorem nat_ints (r : List Nat) : r.map nD = (r.map fun n : Nat => (n : Int)).map PyData.int := by rw [List.map_map]; rfl
theorem shaped_row (r : List Nat) : SeqAt.shaped (rowD r) = true := by
  refine Bool.and_eq_true_iff.mpr ⟨?_, decide_eq_true ?_⟩
  · show PyData.canLayAll0 (r.map nD) = true
    rw [nat_ints]
    exact lay_ints _
  · show PyData.depthAll (r.map nD) + 1 ≤ 64
    rw [nat_ints, depth_ints]
    decide
theorem cast_inj {a b : List Nat} : (a.map fun n : Nat => (n : Int)) = (b.map fun n : Nat => (n : Int)) ↔ a = b := by
  constructor
  · intro h
    have h2 := congrArg (List.map Int.toNat) h
    rw [List.map_map, List.map_map] at h2
    have e : (Int.toNat ∘ fun n : Nat => (n : Int)) = id := by funext n; exact Int.toNat_natCast n
    rw [e, List.map_id, List.map_id] at h2
    exact h2
  · rintro rfl
    rfl
theorem eqv_rows (a b : List Nat) : PyData.eqv (rowD a) (rowD b) = decide (a = b) := by
  unfold rowD
  rw [PyData.eqv, nat_ints, nat_ints, eqv_ints_all]
  by_cases h : a = b
  · subst h; simp
  · rw [decide_eq_false h, decide_eq_false fun e => h (cast_inj.mp e)]
theorem fits_row {r : List Nat} (n : Nat) (h : r.length ≤ 1000) : fits (n + 2) (rowD r) := by
  have zl : (sizeLine : Nat) = 16777216 := by decide
  refine ⟨by rw [List.length_map]; omega, fun d hd => ?_⟩
  obtain ⟨k, _, rfl⟩ := List.mem_map.mp hd
  exact True.intro
section
variable {σ : L2.St} {H : Hp} {Q : VK} {te ta : TE} {K : PySem.W.Frag}
theorem r_rng2 {ta : TA} {R : It → Hp → Prop} (h : ta σ H fun vs H1 => ∃ i j : Int, vs = [.int i, .int j] ∧ (-(2 ^ 62) ≤ i ∧ i < 2 ^ 62 ∧ -(2 ^ 62) ≤ j ∧ j < 2 ^ 62) ∧ R (Itr i (j - i).toNat) H1) : iRng2 ta σ H R := h
theorem r_rng2' {i j : Int} {C : Int → Int → Prop} (h : -(2 ^ 62) ≤ i ∧ i < 2 ^ 62 ∧ -(2 ^ 62) ≤ j ∧ j < 2 ^ 62) (q : C i j) : ∃ i' j' : Int, [V.int i, V.int j] = [.int i', .int j'] ∧ (-(2 ^ 62) ≤ i' ∧ i' < 2 ^ 62 ∧ -(2 ^ 62) ≤ j' ∧ j' < 2 ^ 62) ∧ C i' j' := ⟨i, j, rfl, h, q⟩
theorem rg_nat (n : Nat) : rgV 0 (n : Int) = (List.range n).map iV := by
  unfold rgV
  rw [show ((n : Int) - 0).toNat = n by omega]
  refine List.map_congr_left fun i _ => ?_
  show V.int (0 + (i : Int)) = V.int (i : Int)
  rw [Int.zero_add]
theorem r_tupRgN {n : Nat} (h1 : n ≤ 16777216) (q : ∀ p, H p = none → Q (.ref p) (upd H p (.tup ((List.range n).map iV)))) (h : ∀ R : VK, R (iV n) H → te σ H R) : tTupRg (tRg1 te) σ H Q := by
  refine h _ ⟨(n : Int), rfl, RgOk.of_le (Int.le_refl _) (by omega) (by decide) (by omega), fun p hp => ?_⟩
  rw [rg_nat]
  exact q p hp
theorem r_lcm {a b : Nat} (ha : a < 2 ^ 64) (hb : b < 2 ^ 64) (q : Q (iV (Nat.lcm a b)) H) : rLcm [.int (a : Int), .int (b : Int)] H Q := ⟨a, b, rfl, ha, hb, q⟩
end
theorem row_of {K : PySem.W.Frag} {H : Hp} {p : Addr} {r : List Nat} (h : SqT K H p (r.map iV)) : Dt K H (.ref p) (rowD r) := .tup h (ofNats r)
theorem at_row {r : List Nat} {i : Nat} (h : i < r.length) : atI (r.map iV) (i : Int) = some (iV (at0 r i)) := at_nat rfl h
/-! ### primes -/
def isPr (e : Nat) : Prop := 2 ≤ e ∧ ∀ f, 2 ≤ f → f < e → ¬ f ∣ e
theorem least_pr : ∀ n, 2 ≤ n → ∃ e, isPr e ∧ e ∣ n := by
  intro n
  induction n using Nat.strongRecOn with
  | _ n ih =>
    intro h2
    by_cases h : ∃ f, 2 ≤ f ∧ f < n ∧ f ∣ n
    · obtain ⟨f, a, b, c⟩ := h
      obtain ⟨e, he, hd⟩ := ih f b a
      exact ⟨e, he, Nat.dvd_trans hd c⟩
    · exact ⟨n, ⟨h2, fun f a b c => h ⟨f, a, b, c⟩⟩, Nat.dvd_refl n⟩
open Classical in
noncomputable def prF (c d : Nat) : List Nat := (List.range d).filter fun e => decide (isPr e ∧ e ∣ c)
theorem prF_yes {c d : Nat} (h : isPr d ∧ d ∣ c) : prF c (d + 1) = prF c d ++ [d] := by
  classical
  unfold prF
  rw [List.range_succ, List.filter_append, List.filter_cons_of_pos (by simpa using h)]
  rfl
theorem prF_no {c d : Nat} (h : ¬ (isPr d ∧ d ∣ c)) : prF c (d + 1) = prF c d := by
  classical
  unfold prF
  rw [List.range_succ, List.filter_append, List.filter_cons_of_neg (by simpa using h), List.filter_nil, List.append_nil]
theorem prF_mem {c d e : Nat} : e ∈ prF c d ↔ e < d ∧ isPr e ∧ e ∣ c := by
  classical
  unfold prF
  rw [List.mem_filter, List.mem_range]
  simp
theorem prF_two (c : Nat) : prF c 2 = [] := by
  refine List.eq_nil_iff_forall_not_mem.mpr fun e he => ?_
  have := prF_mem.mp he
  have := this.2.1.1
  omega
theorem prF_grow {c d : Nat} (h : ∀ e, d ≤ e → isPr e → ¬ e ∣ c) : ∀ k, prF c (d + k) = prF c d
  | 0 => rfl
  | k + 1 => by
    show prF c (d + k + 1) = _
    rw [prF_no (fun z => h (d + k) (Nat.le_add_right _ _) z.1 z.2), prF_grow h k]
theorem pr_cop {e d : Nat} (he : isPr e) (hd : 1 ≤ d) (h : d < e) : Nat.Coprime e d := by
  have g1 := Nat.gcd_dvd_left e d
  have g2 := Nat.gcd_dvd_right e d
  have hle := Nat.le_of_dvd hd g2
  by_cases hg : 2 ≤ Nat.gcd e d
  · exact absurd g1 (he.2 _ hg (by omega))
  · have : 0 < Nat.gcd e d := Nat.gcd_pos_of_pos_right _ hd
    show Nat.gcd e d = 1
    omega
end G
set_option Elab.async false
set_option linter.all false
set_option maxRecDepth 100000
set_option maxHeartbeats 4000000
namespace G
open PySem PySem.Spec PyProof.Rows L2
/-! rows of numbers, sorted -/
def kk (r : List Nat) : List (Int ⊕ List Nat) := r.map fun n : Nat => Sum.inl (n : Int)
def rle (a b : List Nat) : Prop := (listOrd itemOrd).kle (kk a) (kk b)
theorem kk_inj {a b : List Nat} (h : kk a = kk b) : a = b := by
  induction a generalizing b with
  | nil => cases b with
    | nil => rfl
    | cons y b => exact nomatch h
  | cons x a ih => cases b with
    | nil => exact nomatch h
    | cons y b =>
      have h1 := List.cons.inj h
      have h2 : (x : Int) = (y : Int) := Sum.inl.inj h1.1
      rw [show x = y by omega, ih h1.2]
theorem rle_anti {a b : List Nat} (h1 : rle a b) (h2 : rle b a) : a = b := kk_inj (KeyOrd.kle_antisymm h1 h2)
theorem sort_uniq : ∀ {a b : List (List Nat)}, a.Perm b → a.Pairwise rle → b.Pairwise rle → a = b
  | [], b, h, _, _ => (List.Perm.nil_eq h)
  | x :: a, [], h, _, _ => absurd h.length_eq (by simp)
  | x :: a, y :: b, h, ha, hb => by
    have ha' := List.pairwise_cons.mp ha
    have hb' := List.pairwise_cons.mp hb
    have e : x = y := by
      have hx : x ∈ y :: b := h.mem_iff.mp List.mem_cons_self
      have hy : y ∈ x :: a := h.mem_iff.mpr List.mem_cons_self
      rcases List.mem_cons.mp hx with e | hx
      · exact e
      · rcases List.mem_cons.mp hy with e | hy
        · exact e.symm
        · exact rle_anti (ha'.1 y hy) (hb'.1 x hx)
    subst e
    rw [sort_uniq (List.Perm.cons_inv h) ha'.2 hb'.2]
theorem items_key : ∀ (r : List Nat) (its : List Value) (i : Nat), Vals (r.map iV) its → tupItems (fun _ => false) i its = some (kk r)
  | [], _, _, h => by cases h; simp [tupItems, kk]
  | n :: r, _, i, h => by
    cases h with
    | cons h1 h2 =>
      obtain ⟨t, rfl⟩ := h1
      show (if (fun _ => false) i = true then none else (tupItems (fun _ => false) (i + 1) _).map _) = _
      rw [if_neg Bool.false_ne_true, items_key r _ (i + 1) h2]
      rfl
theorem tup_key {h : Heap} {b : Addr} {r : List Nat} {its : List Value} (ht : IsTup h b its.toArray) (hv : Vals (r.map iV) its) : PyProof.Rows.G.tupKeyC h (fun _ => false) (.ref b) = some (kk r) := by
  obtain ⟨o, ho, hc, n, hd⟩ := ht
  unfold PyProof.Rows.G.tupKeyC
  have e1 : PyProof.Rows.G.isTupObj h (.ref b) = true := by
    simp only [PyProof.Rows.G.isTupObj, ho, hc]
    decide
  rw [if_pos e1]
  simp only [tupKey, ho, hd]
  exact items_key r its 0 hv
def RowAt (h : Heap) (b : Addr) (r : List Nat) : Prop := r ≠ [] ∧ ∃ its : List Value, Vals (r.map iV) its ∧ IsTup h b its.toArray
theorem tups_of {h : Heap} : ∀ (ps : List (Addr × List Nat)), (∀ p ∈ ps, RowAt h p.1 p.2) → ∃ fs, TupsOf h (fun _ => false) (ps.map fun p => Value.ref p.1) fs
  | [], _ => ⟨[], .nil⟩
  | p :: ps, hall => by
    obtain ⟨fs, hf⟩ := tups_of ps fun q hq => hall q (List.mem_cons_of_mem _ hq)
    obtain ⟨b, r⟩ := p
    obtain ⟨hne, its, hv, o, ho, hc, n, hd⟩ := hall (b, r) List.mem_cons_self
    cases r with
    | nil => exact absurd rfl hne
    | cons x r =>
      cases hv with
      | @cons _ u _ us h1 h2 =>
        obtain ⟨t, rfl⟩ := h1
        exact ⟨_ :: fs, .cons ⟨b, o, _, n, rfl, ho, hc, hd, rfl, fun _ => ⟨_, _, rfl⟩, fun e => absurd e Bool.false_ne_true⟩ hf⟩
theorem keys_of {h : Heap} {ps : List (Addr × List Nat)} (hall : ∀ p ∈ ps, RowAt h p.1 p.2) : ∀ v, v ∈ (ps.map fun p => Value.ref p.1) → ∃ l, PyProof.Rows.G.tupKeyC h (fun _ => false) v = some l := fun v hv => by
  obtain ⟨p, hp, rfl⟩ := List.mem_map.mp hv
  obtain ⟨_, its, h1, h2⟩ := hall p hp
  exact ⟨_, tup_key h2 h1⟩
theorem out_rows {h : Heap} {ps : List (Addr × List Nat)} (hall : ∀ p ∈ ps, RowAt h p.1 p.2) {xs : Array Keyed} (hp : xs.Perm (pairsOf (ps.map fun p => Value.ref p.1)))
    (hs : SortedToK (PyProof.Rows.G.tupKindC h (fun _ => false)) xs (pairsOf (ps.map fun p => Value.ref p.1)).size) :
    ∃ zs : List (Addr × List Nat), zs.Perm ps ∧ (xs.map (·.2)).toList = zs.map (fun p => Value.ref p.1) ∧ zs.Pairwise fun p q => rle p.2 q.2 := by
  have hl : xs.toList.Perm ((ps.map fun p => Value.ref p.1).zip (ps.map fun p => Value.ref p.1)) := by rw [← pairsOf_toList]; exact Array.perm_iff_toList_perm.mp hp
  have ez : ps.map (fun p => (Value.ref p.1, Value.ref p.1)) = (ps.map fun p => Value.ref p.1).zip (ps.map fun p => Value.ref p.1) := by
    rw [List.zip_map']
  obtain ⟨zs, pz, qz⟩ := perm_lift (fun p : Addr × List Nat => (Value.ref p.1, Value.ref p.1)) hl ps ez
  refine ⟨zs, pz, ?_, ?_⟩
  · rw [Array.toList_map, ← qz, List.map_map]
    rfl
  · rw [List.pairwise_iff_getElem]
    intro i j hi hj hij
    have hsz : (pairsOf (ps.map fun p => Value.ref p.1)).size = zs.length := by rw [pairsOf_size, List.length_map, pz.length_eq]
    have h1 := hs i j (Nat.le_of_lt hij) (by rw [hsz]; exact hj)
    have key : ∀ k (hk : k < zs.length), KK (PyProof.Rows.G.tupKindC h (fun _ => false)) xs k = kk zs[k].2 := by
      intro k hk
      have e : xs[k]? = some (Value.ref zs[k].1, Value.ref zs[k].1) := by
        rw [← Array.getElem?_toList, ← qz, List.getElem?_map, List.getElem?_eq_getElem hk]
        rfl
      unfold KK
      rw [e]
      obtain ⟨_, its, h2, h3⟩ := hall zs[k] (pz.mem_iff.mp (List.getElem_mem hk))
      show (PyProof.Rows.G.tupKeyC h (fun _ => false) (.ref zs[k].1)).getD [] = _
      rw [tup_key h3 h2]
      rfl
    rw [key i hi, key j hj] at h1
    exact h1
theorem RowAt.keep {h h' : Heap} {b : Addr} {r : List Nat} (x : RowAt h b r) (k : ∀ b o, h.get? b = some o → h'.get? b = some o) : RowAt h' b r := by
  obtain ⟨h1, its, h2, o, ho, h3⟩ := x
  exact ⟨h1, its, h2, o, k _ _ ho, h3⟩
def refsV (ps : List (Addr × List Nat)) : List V := ps.map fun p => V.ref p.1
def refsU (ps : List (Addr × List Nat)) : List Value := ps.map fun p => Value.ref p.1
theorem refs_eq : ∀ (ps : List (Addr × List Nat)) (its : List Value), Vals (refsV ps) its → its = refsU ps
  | [], _, h => by cases h; rfl
  | p :: ps, _, h => by
    cases h with
    | cons h1 h2 =>
      cases h1
      rw [refs_eq ps _ h2]
      rfl
theorem refs_vals : ∀ ps : List (Addr × List Nat), Vals (refsV ps) (refsU ps)
  | [] => .nil
  | _ :: ps => .cons rfl (refs_vals ps)
abbrev sortedR (zs : List (Addr × List Nat)) : Prop := zs.Pairwise fun p q => rle p.2 q.2
def rSortT (K : PySem.W.Frag) : List V → Hp → VK → Prop := fun vs H Q => ∃ (a : Addr) (ps : List (Addr × List Nat)), vs = [.ref a] ∧ SqL K H a (refsV ps) ∧ (∀ p ∈ ps, SqT K H p.1 (p.2.map iV) ∧ p.2 ≠ []) ∧
  ∀ (zs : List (Addr × List Nat)) (p : Addr), zs.Perm ps → sortedR zs → H p = none → Q (.ref p) (upd H p (.lst (refsV zs)))
section
variable {X : Cx} {K : PySem.W.Frag}
theorem cr_sortT (hK : X.K = K) : CallR X (.builtin "sorted") (rSortT K) := by
  subst hK
  rintro pins s σ H vs us Q I rs ⟨a, ps, rfl, hs, hall, key⟩
  obtain ⟨its, rv, hl, hz⟩ := I.list hs
  obtain rfl := refs_eq ps its rv
  rw [Vals.ref1 rs]
  have hrow : ∀ p ∈ ps, RowAt s.heap p.1 p.2 := fun p hp => by
    obtain ⟨js, jv, jt, _⟩ := I.tuple (hall p hp).1
    exact ⟨(hall p hp).2, js, jv, jt⟩
  obtain ⟨fs, hfs⟩ := tups_of ps hrow
  have hz2 : (refsU ps).length ≤ sizeLine := by rw [← rv.length]; exact hz
  refine PyProof.Rows.G.sorted_tups hl.isList hfs (keys_of hrow) hz2 fun st p1 p2 _ => ?_
  obtain ⟨zs, g1, g2, g3⟩ := out_rows hrow p1 p2
  obtain ⟨ep, hat⟩ := PyProof.Rows.sortedAll_at s.heap (refsU ps) ((arrOf st).map (·.2))
  have hln : (refsV zs).length ≤ sizeLine := by
    have := g1.length_eq
    have h2 : (refsU ps).length = ps.length := List.length_map _
    show (zs.map _).length ≤ _
    rw [List.length_map]
    omega
  have hvz : Vals (refsV zs) ((arrOf st).map (·.2)).toList := by
    rw [g2]
    exact refs_vals zs
  have new : ObjOk X.prog X.w (upd H (s.heap.objs.size + 1) (.lst (refsV zs))) (sortedAll s.heap (refsU ps) ((arrOf st).map (·.2))) (s.heap.objs.size + 1) (.lst (refsV zs)) := ⟨hln, _, ep, hvz, hat⟩
  exact ⟨.ref (s.heap.objs.size + 1), _, I.laid (t' := s.toks) (fun _ _ => PyProof.Rows.sortedAll_old) (Nat.le_succ _) new, rfl, key zs _ g1 g3 (I.hok.fresh (Nat.le_succ _))⟩
end
/-! dicts whose keys are rows -/
def kN (r : List Nat) : List Key := r.map fun n : Nat => .inl (n : Int)
theorem kN_row (r : List Nat) : (kN r).map kV = r.map iV := by
  unfold kN
  rw [List.map_map]
  rfl
theorem kN_inj {a b : List Nat} (h : kN a = kN b) : a = b := by
  induction a generalizing b with
  | nil => cases b with
    | nil => rfl
    | cons y b => exact nomatch h
  | cons x a ih => cases b with
    | nil => exact nomatch h
    | cons y b =>
      have h1 := List.cons.inj h
      have h2 : (x : Int) = (y : Int) := Sum.inl.inj h1.1
      rw [show x = y by omega, ih h1.2]
def dictN (rs : List (List Nat)) : List (List Key × V) := rs.map fun r => (kN r, V.bl true)
theorem dictN_len (rs : List (List Nat)) : (dictN rs).length = rs.length := List.length_map _
theorem valV_in {rs : List (List Nat)} {r : List Nat} (h : r ∈ rs) : valV (dictN rs) (kN r) = some (.bl true) := by
  induction rs with
  | nil => exact nomatch h
  | cons x rs ih =>
    by_cases e : x = r
    · subst e
      exact valV_pos rfl
    · rcases List.mem_cons.mp h with z | h
      · exact absurd z.symm e
      · show valV ((kN x, V.bl true) :: dictN rs) (kN r) = _
        rw [valV_neg (fun z => e (kN_inj z))]
        exact ih h
theorem valV_out {rs : List (List Nat)} {r : List Nat} (h : r ∉ rs) : valV (dictN rs) (kN r) = none := by
  induction rs with
  | nil => rfl
  | cons x rs ih =>
    show valV ((kN x, V.bl true) :: dictN rs) (kN r) = _
    rw [valV_neg (fun z => h (by rw [← kN_inj z]; exact List.mem_cons_self))]
    exact ih fun z => h (List.mem_cons_of_mem _ z)
theorem putN {rs : List (List Nat)} {r : List Nat} (h : r ∉ rs) : putK (dictN rs) (kN r) (.bl true) = dictN (rs ++ [r]) := by
  rw [putK_new _ (valV_out h)]
  unfold dictN
  rw [List.map_append]
  rfl
theorem rows_of {H : Hp} : ∀ {rs : List (List Nat)} {ks : List (List Key × Addr × Value)}, Paired (fun (p : List Key × V) (q : List Key × Addr × Value) => p.1 = q.1 ∧ H q.2.1 = some (.tup (p.1.map kV)) ∧ RelV p.2 q.2.2) (dictN rs) ks →
    ∃ ps : List (Addr × List Nat), ps.map (·.2) = rs ∧ refsU ps = ks.map (fun x => Value.ref x.2.1) ∧ ∀ p ∈ ps, H p.1 = some (.tup (p.2.map iV))
  | [], _, h => by cases h; exact ⟨[], rfl, rfl, fun p hp => nomatch hp⟩
  | r :: rs, _, h => by
    cases h with
    | @cons _ k _ ks h1 h2 =>
      obtain ⟨ps, e1, e2, e3⟩ := rows_of h2
      have hk : H k.2.1 = some (.tup ((kN r).map kV)) := h1.2.1
      rw [kN_row] at hk
      refine ⟨(k.2.1, r) :: ps, by rw [List.map_cons, e1], ?_, fun p hp => ?_⟩
      · show Value.ref k.2.1 :: refsU ps = _
        rw [e2]
        rfl
      · rcases List.mem_cons.mp hp with rfl | hp
        · exact hk
        · exact e3 p hp
/-- {t: v}, one key, a row -/
def tDispT (tk tv : TE) : TE := fun σ H Q => ∀ p, H p = none → tk σ (upd H p (.dT [])) fun x H1 => tv σ H1 fun y H2 => ∃ b r, x = .ref b ∧ H2 b = some (.tup ((r : List Nat).map iV)) ∧ H2 p = some (.dT []) ∧ y = .bl true ∧ Q (.ref p) (upd H2 p (.dT (dictN [r])))
section
variable {X : Cx} {K : PySem.W.Frag}
theorem pe_dispT {k v : Expr} {tk tv : TE} {pos : Pos} (hu : X.A.units + 1 < cLine) (hk : PE X k tk) (hv : PE X v tv) : PE X (.Dict [some k] [v] pos) (tDispT tk tv) := by
  constructor
  intro pins s σ H Q I q
  have hn := I.hok.fresh (Nat.le_refl s.heap.objs.size)
  have I1 := I.laid (a := s.heap.objs.size) (o := .dT []) (h' := s.heap.push { cls := .type "dict", data := .dict #[] }) (t' := s.toks) (fun _ _ e => Heap.get?_push_of_some _ e) (Nat.le_refl _) (dt_empty s.heap I.big)
  rw [arm_eval_Dict, zip_pairTrees [some k] [v] X.env pos rfl rfl, dictDisplay_pairs (pairTrees [some k] [v] X.env pos) (by simp [pairTrees]) (by simp [pairTrees])]
  refine wpAny_bind (wpAny_standAt (wpAny_bind ?_))
  refine wpAny_subDictH (knd := tupleKind (mixKind X.prog X.w)) (Q := fun d s' => wpAny (model X.prog X.w) X.A (pure (Value.ref d)) (EP X pins σ Q) X.xe s') (show X.A.units < cLine by omega) (by simp [pairTrees]) ?_
  refine pairTrees_cons_walk (thn (hk.run pins _ σ _ _ I1 (q _ hn)) fun u s1 ⟨x, H1, I2, rx, q1⟩ => thn (hv.run pins s1 σ H1 _ I2 q1) fun w2 s2 ⟨y, H2, I3, ry, b, r, ex, hb, hp, ey, q2⟩ => pairTrees_nil_walk ?_)
  subst ex ey
  cases rx
  rw [← kN_row] at hb
  obtain ⟨z, hd, xs, rel, dd⟩ := dt_of I3.hok hp
  cases rel
  refine ⟨[(kN r, b, w2)], ⟨rfl, rfl, key_of I3.hok hb, trivial⟩, dd, fun h' tk dd' hs => wpAny_pure ?_⟩
  obtain ⟨ob, es, ep, hq, h2, h3, h4, _, h5⟩ := dd'
  have I4 := d_write (t' := tk) (ob := .dT (dictN [r])) I3 (by rw [hp]; exact True.intro) hs ⟨ob, hq⟩ ⟨by rw [dictN_len]; show 1 ≤ sizeLine; decide, hd, [(kN r, b, w2)], .cons ⟨rfl, by rw [upd_ne (ne_of hb hp (fun z => nomatch z))]; exact hb, ry⟩ .nil, ob, es, ep, hq, h2, h3, h4, h5⟩
  exact ⟨.ref _, _, I4, rfl, q2⟩
/-- sorted(d) of a dict with rows as keys -/
def rSortD : List V → Hp → VK → Prop := fun vs H Q => ∃ (d : Addr) (rs : List (List Nat)), vs = [.ref d] ∧ Rd H d (.dT (dictN rs)) ∧ (∀ r ∈ rs, r ≠ []) ∧
  ∀ (zs : List (Addr × List Nat)) (p : Addr), (zs.map (·.2)).Perm rs → sortedR zs → (∀ z ∈ zs, H z.1 = some (.tup (z.2.map iV))) → H p = none → Q (.ref p) (upd H p (.lst (refsV zs)))
theorem cr_sortD (hc : X.calm = true) : CallR X (.builtin "sorted") rSortD := by
  rintro pins s σ H vs us Q I rs ⟨d, rows, rfl, hd, hne, key⟩
  rw [Vals.ref1 rs]
  obtain ⟨z, hs, ks, pr, o, es, ep, ho, hx, hdt, he, hn⟩ := (show ObjOk X.prog X.w H s.heap d (.dT (dictN rows)) from hd.ok I.hok)
  obtain ⟨ps, e1, e2, e3⟩ := rows_of pr
  have hes : es.size = ks.length := by rw [← Array.length_toList, he, List.length_map]
  have hps : ps.length = ks.length := by
    have := congrArg List.length e2
    rw [List.length_map] at this
    rw [← this]
    exact (List.length_map _).symm
  have hzl : ps.length ≤ sizeLine := by
    have h1 : (dictN rows).length = rows.length := dictN_len rows
    have h2 := congrArg List.length e1
    rw [List.length_map] at h2
    omega
  refine Calls.call_function_entry PyProof.Rows.kind_sorted PyProof.Rows.plain_sorted PyProof.Rows.entry_sorted (PyProof.Rows.args_sorted1 _) ?_
  unfold Builtin.«sorted»
  refine wpAny_bind (m := checkCount "sorted" 1 1 _) (wpAny_pure ?_)
  refine wpAny_bind (PySem.W.kdu_collect (A := X.A.in1) (kdl_raw hs hx hdt) (I.ok.hd hc) ho (by omega) fun h1 tk acc hk hacc => ?_)
  have ea : acc.toList = refsU ps := by
    rw [e2]
    refine List.ext_getElem (by rw [Array.length_toList, hacc.1, hes, List.length_map]) fun j hj1 hj2 => ?_
    rw [List.length_map] at hj2
    have hg : acc[j]? = some acc.toList[j] := by rw [← Array.getElem?_toList, List.getElem?_eq_getElem hj1]
    obtain ⟨en, hen, hv⟩ := hacc.2 j _ hg
    rw [← Array.getElem?_toList, he, List.getElem?_map, List.getElem?_eq_getElem hj2] at hen
    have h3 := Option.some.inj hen
    rw [hv, ← h3, List.getElem_map]
    rfl
  rw [ea]
  have I1 : Inv X pins σ H { s with heap := h1, toks := tk } := I.kept hk
  have hul : (refsU ps).length = ps.length := List.length_map _
  refine wpAny_bind (wpAny_newList ?_ (by omega))
  have hoL : (h1.push (seqObj "list" (refsU ps).toArray 0)).get? h1.objs.size = some (seqObj "list" (refsU ps).toArray 0) := Heap.get?_push_size _ rfl
  have hrow : ∀ p ∈ ps, RowAt (h1.push (seqObj "list" (refsU ps).toArray 0)) p.1 p.2 := fun p hp => by
    obtain ⟨js, jv, jt, _⟩ := I1.tuple (a := p.1) (xs := p.2.map iV) (.inl (.inl (e3 p hp)))
    have hpne : p.2 ≠ [] := hne _ (by rw [← e1]; exact List.mem_map_of_mem hp)
    exact RowAt.keep ⟨hpne, js, jv, jt⟩ fun b o e => Heap.get?_push_of_some _ e
  obtain ⟨fs, hfs⟩ := tups_of ps hrow
  show wpAny _ _ _ _ _ { s with heap := h1.push (seqObj "list" (refsU ps).toArray 0), toks := tk }
  refine wpAny_bind (wpAny_holding (wpAny_call_entry PyProof.Rows.slot_list_sort ⟨_, hoL, rfl⟩ PyProof.Rows.entry_list_sort
    (PyProof.Rows.G.list_sort_tups (s := { s with heap := h1.push (seqObj "list" (refsU ps).toArray 0), toks := tk }) hoL hfs (keys_of hrow) (by omega) fun st p1 p2 _ => ⟨_, rfl, ?_⟩) (PyProof.Rows.args_list_sort _)))
  obtain ⟨zs, g1, g2, g3⟩ := out_rows hrow p1 p2
  obtain ⟨e', hat⟩ := PyProof.Rows.sortedHeap_at (vs := refsU ps) (out := (arrOf st).map (·.2)) hoL
  have hln : (refsV zs).length ≤ sizeLine := by
    have := g1.length_eq
    show (zs.map _).length ≤ _
    rw [List.length_map]
    omega
  have hvz : Vals (refsV zs) ((arrOf st).map (·.2)).toList := by
    rw [g2]
    exact refs_vals zs
  have fin := I1.laid (a := h1.objs.size) (o := .lst (refsV zs)) (h' := sortedHeap (h1.push (seqObj "list" (refsU ps).toArray 0)) h1.objs.size (refsU ps) ((arrOf st).map (·.2))) (t' := tk) (fun b u e => by
      have hb : b < h1.objs.size := Heap.lt_size e
      rw [PyProof.Rows.sortedHeap_old (Nat.ne_of_lt hb) (by rw [size_push']; exact Nat.lt_succ_of_lt hb)]
      exact Heap.get?_push_of_some _ e) (Nat.le_refl _) ⟨hln, _, e', hvz, hat⟩
  refine wpAny_pure ⟨_, rfl, .ref h1.objs.size, _, fin, rfl, key zs _ ?_ g3 (fun z hz => e3 z (g1.mem_iff.mp hz)) (I1.hok.fresh (Nat.le_refl _))⟩
  rw [← e1]
  exact g1.map _
end
end G
set_option Elab.async false
set_option linter.all false
set_option maxRecDepth 100000
set_option maxHeartbeats 4000000
namespace G
open PySem PySem.Spec PyProof.Rows L2
/-! what some permutations make -/
inductive Gen (n : Nat) (gs : List (List Nat)) : List Nat → Prop
  | one : Gen n gs (idN n)
  | step {x m : List Nat} : Gen n gs x → m ∈ gs → Gen n gs (thenN x m)
def RowN (n : Nat) (r : List Nat) : Prop := r.length = n ∧ ∀ x ∈ r, x < n
theorem Perm.row {n : Nat} {p : List Nat} (h : Perm n p) : RowN n p := ⟨h.len, h.lt⟩
theorem RowN.id (n : Nat) : RowN n (idN n) := ⟨List.length_range, fun x hx => List.mem_range.mp hx⟩
theorem RowN.at {n i : Nat} {r : List Nat} (h : RowN n r) (hi : i < n) : at0 r i < n := h.2 _ (List.mem_of_getElem? (at0_some (by rw [h.1]; exact hi)))
theorem RowN.then {n : Nat} {x m : List Nat} (hx : RowN n x) (hm : RowN n m) : RowN n (thenN x m) := by
  refine ⟨by unfold thenN; rw [List.length_map]; exact hx.1, fun y hy => ?_⟩
  obtain ⟨k, hk, rfl⟩ := List.mem_map.mp hy
  exact hm.at (hx.2 k hk)
theorem Gen.row {n : Nat} {gs : List (List Nat)} (hg : ∀ m ∈ gs, RowN n m) {x : List Nat} (h : Gen n gs x) : RowN n x := by
  induction h with
  | one => exact RowN.id n
  | step _ hm ih => exact ih.then (hg _ hm)
theorem Gen.sub {n : Nat} {gs S : List (List Nat)} (h1 : idN n ∈ S) (h2 : ∀ x ∈ S, ∀ m ∈ gs, thenN x m ∈ S) {x : List Nat} (h : Gen n gs x) : x ∈ S := by
  induction h with
  | one => exact h1
  | step _ hm ih => exact h2 _ ih _ hm
theorem Gen.mono {n : Nat} {gs hs : List (List Nat)} (k : ∀ m ∈ gs, m ∈ hs) {x : List Nat} (h : Gen n gs x) : Gen n hs x := by
  induction h with
  | one => exact .one
  | step _ hm ih => exact .step ih (k _ hm)
theorem id_then {n : Nat} {m : List Nat} (h : m.length = n) : thenN (idN n) m = m := by
  apply List.ext_getElem?
  intro i
  unfold thenN idN
  by_cases hi : i < n
  · rw [List.getElem?_map, List.getElem?_range hi, at0_some (by omega)]
    rfl
  · rw [List.getElem?_eq_none (by rw [List.length_map, List.length_range]; omega), List.getElem?_eq_none (by omega)]
theorem at_id {n i : Nat} (h : i < n) : at0 (idN n) i = i := by
  unfold at0 idN
  rw [List.getD_eq_getElem?_getD, List.getElem?_range h]
  rfl
theorem then_id {n : Nat} {x : List Nat} (h : RowN n x) : thenN x (idN n) = x := by
  unfold thenN
  conv => rhs; rw [← List.map_id x]
  exact List.map_congr_left fun y hy => at_id (h.2 y hy)
theorem at_then {x m : List Nat} {i : Nat} (h : i < x.length) : at0 (thenN x m) i = at0 m (at0 x i) := by
  have e : (thenN x m)[i]? = some (at0 m (at0 x i)) := by
    unfold thenN
    rw [List.getElem?_map, at0_some h]
    rfl
  have e2 := at0_some (p := thenN x m) (i := i) (by unfold thenN; rw [List.length_map]; exact h)
  rw [e2] at e
  exact Option.some.inj e
theorem then_assoc {n : Nat} {x y m : List Nat} (hx : RowN n x) (hy : RowN n y) : thenN x (thenN y m) = thenN (thenN x y) m := by
  show x.map (at0 (thenN y m)) = (x.map (at0 y)).map (at0 m)
  rw [List.map_map]
  exact List.map_congr_left fun k hk => at_then (by rw [hy.1]; exact hx.2 k hk)
theorem Gen.mul {n : Nat} {gs : List (List Nat)} (hg : ∀ m ∈ gs, RowN n m) {x y : List Nat} (hx : Gen n gs x) (hy : Gen n gs y) : Gen n gs (thenN x y) := by
  induction hy with
  | one => rw [then_id (hx.row hg)]; exact hx
  | step h hm ih => rw [then_assoc (hx.row hg) (h.row hg)]; exact .step ih hm
theorem Gen.of {n : Nat} {gs : List (List Nat)} {m : List Nat} (hr : RowN n m) (h : m ∈ gs) : Gen n gs m := by
  have := Gen.step (.one (n := n)) h
  rw [id_then hr.1] at this
  exact this
/-- a list of all that some permutations make -/
structure Group (n : Nat) (gs rs : List (List Nat)) : Prop where
  nd : rs.Nodup
  all : ∀ x, x ∈ rs ↔ Gen n gs x
theorem Group.perm {n : Nat} {gs a b : List (List Nat)} (h1 : Group n gs a) (h2 : Group n gs b) : a.Perm b :=
  (List.perm_ext_iff_of_nodup h1.nd h2.nd).mpr fun x => (h1.all x).trans (h2.all x).symm
/-- a bound of what they make -/
structure Bnd (n : Nat) (gs L : List (List Nat)) (B : Nat) : Prop where
  rows : ∀ m ∈ gs, RowN n m
  one : idN n ∈ L
  step : ∀ x ∈ L, ∀ m ∈ gs, thenN x m ∈ L
  len : L.length ≤ B
theorem Bnd.le {n B : Nat} {gs L ms rs : List (List Nat)} (b : Bnd n gs L B) (hs : ∀ m ∈ ms, m ∈ gs) (nd : rs.Nodup) (h : ∀ x ∈ rs, Gen n ms x) : rs.length ≤ B := by
  refine Nat.le_trans (List.Nodup.length_le_of_subset nd fun x hx => ?_) b.len
  exact ((h x hx).mono hs).sub b.one b.step
/-- makers that make all -/
theorem group_of {n : Nat} {gs ms rs : List (List Nat)} (hg : ∀ m ∈ gs, RowN n m) (hs : ∀ m ∈ ms, m ∈ gs) (nd : rs.Nodup) (h1 : idN n ∈ rs) (h2 : ∀ x ∈ rs, ∀ m ∈ ms, thenN x m ∈ rs) (h3 : ∀ x ∈ rs, Gen n ms x) (h4 : ∀ m ∈ gs, m ∈ rs) : Group n gs rs := by
  have hm : ∀ m ∈ ms, RowN n m := fun m hm => hg m (hs m hm)
  refine ⟨nd, fun x => ⟨fun hx => (h3 x hx).mono hs, fun hx => ?_⟩⟩
  refine hx.sub h1 fun y hy m hmg => ?_
  exact (Gen.mul hm (h3 y hy) (h3 m (h4 m hmg))).sub h1 h2
/-! all permutations of a few places -/
def extP (n : Nat) : Nat → List (List Nat)
  | 0 => [[]]
  | k + 1 => (extP n k).flatMap fun l => ((List.range n).filter fun x => !l.contains x).map fun x => l ++ [x]
theorem ext_mem {n : Nat} : ∀ (k : Nat) (l : List Nat), l.length = k → (∀ x ∈ l, x < n) → l.Nodup → l ∈ extP n k
  | 0, l, hl, _, _ => by
    rw [List.length_eq_zero_iff.mp hl]
    exact List.mem_singleton.mpr rfl
  | k + 1, l, hl, hlt, nd => by
    have hne : l ≠ [] := fun e => by rw [e] at hl; exact nomatch hl
    obtain ⟨m, y, rfl⟩ : ∃ m y, l = m ++ [y] := ⟨l.dropLast, l.getLast hne, (List.dropLast_concat_getLast hne).symm⟩
    rw [List.length_append] at hl
    have nd' := List.nodup_append.mp nd
    refine List.mem_flatMap.mpr ⟨m, ext_mem k m (by simpa using hl) (fun x hx => hlt x (List.mem_append_left _ hx)) nd'.1, List.mem_map.mpr ⟨y, List.mem_filter.mpr ⟨List.mem_range.mpr (hlt y (List.mem_append_right _ List.mem_cons_self)), ?_⟩, rfl⟩⟩
    have : y ∉ m := fun hy => nd'.2.2 y hy y List.mem_cons_self rfl
    simpa using this
theorem Perm.then {n : Nat} {p q : List Nat} (hp : Perm n p) (hq : Perm n q) : Perm n (thenN p q) := by
  have hr := hp.row.then hq.row
  refine ⟨hr.1, hr.2, ?_⟩
  unfold thenN
  refine List.pairwise_iff_getElem.mpr fun i j hi hj hij e => ?_
  rw [List.length_map] at hi hj
  rw [List.getElem_map, List.getElem_map] at e
  have h1 := hq.inj (hp.lt _ (List.getElem_mem hi)) (hp.lt _ (List.getElem_mem hj)) e
  exact absurd h1 (List.pairwise_iff_getElem.mp hp.nd i j hi hj hij)
theorem Perm.id (n : Nat) : Perm n (idN n) := ⟨List.length_range, fun x hx => List.mem_range.mp hx, List.nodup_range⟩
theorem Perm.ext {n : Nat} {p : List Nat} (h : Perm n p) : p ∈ extP n n := ext_mem n p h.len h.lt h.nd
theorem ext_len {n : Nat} (h : n ≤ 6) : (extP n n).length ≤ 720 ∧ (extP n n).length = Nat.rec 1 (fun k f => (k + 1) * f) n := by
  match n, h with
  | 0, _ => decide +kernel
  | 1, _ => decide +kernel
  | 2, _ => decide +kernel
  | 3, _ => decide +kernel
  | 4, _ => decide +kernel
  | 5, _ => decide +kernel
  | 6, _ => decide +kernel
theorem ext_perm {n : Nat} : ∀ (k : Nat) (l : List Nat), l ∈ extP n k → l.length = k ∧ (∀ x ∈ l, x < n) ∧ l.Nodup
  | 0, l, h => by
    rw [List.mem_singleton.mp h]
    exact ⟨rfl, (fun x hx => nomatch hx), List.nodup_nil⟩
  | k + 1, l, h => by
    obtain ⟨m, hm, h2⟩ := List.mem_flatMap.mp h
    obtain ⟨y, hy, rfl⟩ := List.mem_map.mp h2
    obtain ⟨a, b, c⟩ := ext_perm k m hm
    obtain ⟨y1, y2⟩ := List.mem_filter.mp hy
    have hy' : y ∉ m := by simpa using y2
    refine ⟨by rw [List.length_append, a]; rfl, fun x hx => ?_, ?_⟩
    · rcases List.mem_append.mp hx with hx | hx
      · exact b x hx
      · rw [List.mem_singleton.mp hx]; exact List.mem_range.mp y1
    · refine List.nodup_append.mpr ⟨c, by simp, fun x hx z hz e => ?_⟩
      rw [List.mem_singleton.mp hz] at e
      subst e
      exact hy' hx
theorem bnd_small {n : Nat} {gs : List (List Nat)} (hn : n ≤ 6) (hg : ∀ m ∈ gs, Perm n m) : Bnd n gs (extP n n) (extP n n).length where
  rows := fun m hm => (hg m hm).row
  one := (Perm.id n).ext
  step := fun x hx m hm => by
    obtain ⟨a, b, c⟩ := ext_perm n x hx
    exact (Perm.then ⟨a, b, c⟩ (hg m hm)).ext
  len := Nat.le_refl _
theorem fact_ok : ∀ n, n ≤ 64 → ((Builtin.Math.factorialNat n : Nat) : Int).natAbs.log2 < bitsLine ∧ (n ≤ 6 → (extP n n).length ≤ Builtin.Math.factorialNat n) ∧ (7 ≤ n → 999 ≤ Builtin.Math.factorialNat n) := by
  have h : (List.range 65).all (fun n => decide (((Builtin.Math.factorialNat n : Nat) : Int).natAbs.log2 < bitsLine) && decide (n ≤ 6 → (extP n n).length ≤ Builtin.Math.factorialNat n) && decide (7 ≤ n → 999 ≤ Builtin.Math.factorialNat n)) = true := by decide +kernel
  intro n hn
  have h2 := List.all_eq_true.mp h n (List.mem_range.mpr (by omega))
  simp only [Bool.and_eq_true, decide_eq_true_eq] at h2
  exact ⟨h2.1.1, h2.1.2, h2.2⟩
def rFact : List V → Hp → VK → Prop := fun xs H Q => ∃ n : Nat, xs = [.int (n : Int)] ∧ n ≤ 64 ∧ Q (.int ((Builtin.Math.factorialNat n : Nat) : Int)) H
theorem call_factorial {X : Cx} : CallR X (.builtin "math.factorial") rFact := by
  rintro pins s σ H vs us Q I rs ⟨n, rfl, hn, q⟩
  obtain ⟨u, rfl, t, rfl⟩ := vals1 rs
  refine PySem.W.mg_factorial (by simp only [Builtin.Math.maxSsize]; omega) (by omega) (by simp only [Builtin.Math.manyFactors]; omega) (by rw [Int.toNat_natCast]; exact (fact_ok n hn).1) ?_
  rw [Int.toNat_natCast]
  exact ⟨.int _, H, I.tok _, ⟨_, rfl⟩, q⟩
theorem lay_rows : ∀ rs : List (List Nat), PyData.canLayAll0 (rs.map rowD) = true
  | [] => rfl
  | r :: rs => Bool.and_eq_true_iff.mpr ⟨by
      show PyData.canLayAll0 (r.map nD) = true
      rw [nat_ints]
      exact lay_ints _, lay_rows rs⟩
theorem depth_rows : ∀ rs : List (List Nat), PyData.depthAll (rs.map rowD) ≤ 2
  | [] => by decide
  | r :: rs => by
    show max (PyData.depthAll (r.map nD) + 1) (PyData.depthAll (rs.map rowD)) ≤ 2
    have h1 := depth_rows rs
    rw [nat_ints, depth_ints]
    omega
theorem shaped_rows (rs : List (List Nat)) : SeqAt.shaped (.list (rs.map rowD)) = true := by
  refine Bool.and_eq_true_iff.mpr ⟨lay_rows rs, decide_eq_true ?_⟩
  show PyData.depthAll (rs.map rowD) + 1 ≤ 64
  have := depth_rows rs
  omega
theorem eqv_all_rows : ∀ (a b : List (List Nat)), PyData.eqvAll (a.map rowD) (b.map rowD) = decide (a = b)
  | [], [] => by simp [PyData.eqvAll]
  | [], y :: b => by simp [PyData.eqvAll]
  | x :: a, [] => by simp [PyData.eqvAll]
  | x :: a, y :: b => by
    rw [List.map_cons, List.map_cons, PyData.eqvAll, eqv_rows, eqv_all_rows a b]
    simp [Bool.decide_and]
theorem eqv_lrows (a b : List (List Nat)) : PyData.eqv (.list (a.map rowD)) (.list (b.map rowD)) = decide (a = b) := by
  rw [PyData.eqv, eqv_all_rows]
theorem dp_rows {K : PySem.W.Frag} {H : Hp} {p : Addr} {ps : List (Addr × List Nat)} (h : SqL K H p (refsV ps)) (hall : ∀ q ∈ ps, SqT K H q.1 (q.2.map iV)) : Dp K H (.ref p) (.list ((ps.map (·.2)).map rowD)) := by
  refine .lst h ?_
  clear h
  induction ps with
  | nil => exact .nil
  | cons q ps ih => exact .cons ((row_of (hall q List.mem_cons_self)).dp _ _) (ih fun q' hq => hall q' (List.mem_cons_of_mem _ hq))
theorem fits_rows {rs : List (List Nat)} (h : rs.length ≤ 1000) (hr : ∀ r ∈ rs, r.length ≤ 1000) : fits 3 (.list (rs.map rowD)) := by
  have zl : (sizeLine : Nat) = 16777216 := by decide
  refine ⟨by rw [List.length_map]; omega, fun d hd => ?_⟩
  obtain ⟨r, hm, rfl⟩ := List.mem_map.mp hd
  exact fits_row 0 (hr r hm)
/-- rows that stand at addresses, each a tuple of its own -/
def TupR (H : Hp) (ps : List (Addr × List Nat)) : Prop := ∀ p ∈ ps, H p.1 = some (.tup (p.2.map iV))
theorem TupR.k {H H' : Hp} {ps : List (Addr × List Nat)} (h : TupR H ps) (e : Same H H') : TupR H' ps := fun p hp => e _ _ (h p hp)
theorem TupR.snoc {H : Hp} {ps : List (Addr × List Nat)} {b : Addr} {r : List Nat} (h : TupR H ps) (hb : H b = some (.tup (r.map iV))) : TupR H (ps ++ [(b, r)]) := fun p hp => by
  rcases List.mem_append.mp hp with hp | hp
  · exact h p hp
  · rw [List.mem_singleton.mp hp]; exact hb
end G
set_option Elab.async false
set_option linter.all false
set_option maxRecDepth 100000
set_option maxHeartbeats 4000000
namespace G
open PySem PySem.Spec PyProof.Rows L2
def rListN : List V → Hp → VK → Prop := fun xs H Q => ∃ (d : Addr) (rs : List (List Nat)), xs = [V.ref d] ∧ Rd H d (.dT (dictN rs)) ∧
  ∀ (p : Addr) (ps : List (Addr × List Nat)), H p = none → ps.map (·.2) = rs → TupR H ps → Q (.ref p) (upd H p (.lst (refsV ps)))
theorem keys_rows {H : Hp} : ∀ (rs : List (List Nat)) (bs : List Addr), IsKeys H (dictN rs) bs → ∃ ps : List (Addr × List Nat), ps.map (·.2) = rs ∧ TupR H ps ∧ bs.map V.ref = refsV ps
  | [], _, h => by
    cases (show Paired _ _ _ from h)
    exact ⟨[], rfl, (fun p hp => nomatch hp), rfl⟩
  | r :: rs, _, h => by
    cases (show Paired _ _ _ from h) with
    | @cons _ b _ bs h1 h2 =>
      obtain ⟨ps, e1, e2, e3⟩ := keys_rows rs bs h2
      have hb : H b = some (.tup ((kN r).map kV)) := h1
      rw [kN_row] at hb
      refine ⟨(b, r) :: ps, by rw [List.map_cons, e1], fun p hp => ?_, ?_⟩
      · rcases List.mem_cons.mp hp with rfl | hp
        · exact hb
        · exact e2 p hp
      · rw [List.map_cons, e3]
        rfl
section
variable {X : Cx} {H : Hp} {Q : VK} {K : PySem.W.Frag} {σ : L2.St} {te ty td tv : TE}
theorem call_listN (hc : X.calm = true) : CallR X (.type "list") rListN := by
  rintro pins s σ H xs us Q I rs ⟨d, rows, rfl, hd, key⟩
  refine call_list_dT hc pins s σ H _ us Q I rs ⟨d, _, rfl, hd, fun p bs hp hk => ?_⟩
  obtain ⟨ps, e1, e2, e3⟩ := keys_rows rows bs hk
  rw [e3]
  exact key p ps hp e1 e2
theorem r_listN {d : Addr} {rs : List (List Nat)} (h : H d = some (.dT (dictN rs))) (q : ∀ (p : Addr) (ps : List (Addr × List Nat)), H p = none → ps.map (·.2) = rs → TupR H ps → Q (.ref p) (upd H p (.lst (refsV ps)))) : rListN [.ref d] H Q := ⟨d, rs, rfl, .inl h, q⟩
theorem r_sortD {d : Addr} {rs : List (List Nat)} (h : H d = some (.dT (dictN rs))) (hn : ∀ r ∈ rs, r ≠ []) (q : ∀ (zs : List (Addr × List Nat)) (p : Addr), (zs.map (·.2)).Perm rs → sortedR zs → TupR H zs → H p = none → Q (.ref p) (upd H p (.lst (refsV zs)))) : rSortD [.ref d] H Q := ⟨d, rs, rfl, .inl h, hn, q⟩
theorem r_sortT {a : Addr} {ps : List (Addr × List Nat)} (h : SqL K H a (refsV ps)) (hall : ∀ p ∈ ps, SqT K H p.1 (p.2.map iV) ∧ p.2 ≠ []) (q : ∀ (zs : List (Addr × List Nat)) (p : Addr), zs.Perm ps → sortedR zs → H p = none → Q (.ref p) (upd H p (.lst (refsV zs)))) : rSortT K [.ref a] H Q := ⟨a, ps, rfl, h, hall, q⟩
theorem r_lenDT {d : Addr} {rs : List (List Nat)} (h : H d = some (.dT (dictN rs))) (q : Q (.int (rs.length : Nat)) H) : rLenT [.ref d] H Q := by
  refine ⟨d, dictN rs, rfl, h, ?_⟩
  rw [dictN_len]
  exact q
theorem r_dni {ty td : TE} (h : ty σ H fun y H1 => td σ H1 fun x H2 => ∃ a o, x = .ref a ∧ DGet H2 a y o ∧ Q (.bl (!o.isSome)) H2) : tDNotIn ty td σ H Q := h
open Classical in
theorem dni_at {d b : Addr} {rs : List (List Nat)} {r : List Nat} (h : H d = some (.dT (dictN rs))) (hb : H b = some (.tup (r.map iV))) : ∃ o, DGet H d (.ref b) o ∧ (!o.isSome) = decide (r ∉ rs) := by
  rw [← kN_row] at hb
  refine ⟨_, DGet.t h hb, ?_⟩
  by_cases e : r ∈ rs
  · rw [valV_in e, decide_eq_false (fun z => z e)]
    rfl
  · rw [valV_out e, decide_eq_true e]
    rfl
theorem r_dput {D : Ends} {td ty tv : TE} (h : tv σ H fun v H1 => td σ H1 fun x H2 => ty σ H2 fun y H3 => ∃ a H4, x = .ref a ∧ DPut H3 a y v H4 ∧ D.nx σ H4) : sDPut td ty tv D σ H := h
theorem r_dputE {D : Ends} {d b : Addr} {rs : List (List Nat)} {r : List Nat} (h : H d = some (.dT (dictN rs))) (hb : H b = some (.tup (r.map iV))) (hr : r ∉ rs) (hl : rs.length < sizeLine) (q : D.nx σ (upd H d (.dT (dictN (rs ++ [r]))))) : ∃ a H4, V.ref d = .ref a ∧ DPut H a (.ref b) (.bl true) H4 ∧ D.nx σ H4 := by
  rw [← kN_row] at hb
  refine ⟨d, _, rfl, DPut.t h hb (by rw [dictN_len]; exact hl), ?_⟩
  rw [putN hr]
  exact q
theorem r_dispT {tk tv : TE} (h : ∀ p, H p = none → tk σ (upd H p (.dT [])) fun x H1 => tv σ H1 fun y H2 => ∃ b r, x = .ref b ∧ H2 b = some (.tup ((r : List Nat).map iV)) ∧ H2 p = some (.dT []) ∧ y = .bl true ∧ Q (.ref p) (upd H2 p (.dT (dictN [r])))) : tDispT tk tv σ H Q := h
theorem at_refs {ps : List (Addr × List Nat)} {i : Nat} {p : Addr × List Nat} (h : ps[i]? = some p) : atI (refsV ps) (i : Int) = some (.ref p.1) := by
  refine at_of rfl ?_
  unfold refsV
  rw [List.getElem?_map, h]
  rfl
end
end G
set_option Elab.async false
set_option linter.all false
set_option maxRecDepth 100000
set_option maxHeartbeats 4000000
namespace G
open PySem PySem.Spec PyProof.Rows L2
/-! wheels -/
def rot (n j : Nat) : List Nat := (List.range n).map fun k => (k + j) % n
theorem rot_len (n j : Nat) : (rot n j).length = n := by unfold rot; rw [List.length_map, List.length_range]
theorem rot_row {n j : Nat} : RowN n (rot n j) := by
  refine ⟨rot_len n j, fun x hx => ?_⟩
  obtain ⟨k, hk, rfl⟩ := List.mem_map.mp hx
  have := List.mem_range.mp hk
  exact Nat.mod_lt _ (by omega)
theorem at_rot {n j i : Nat} (h : i < n) : at0 (rot n j) i = (i + j) % n := by
  unfold at0 rot
  rw [List.getD_eq_getElem?_getD, List.getElem?_map, List.getElem?_range h]
  rfl
theorem then_rot (n i j : Nat) : thenN (rot n i) (rot n j) = rot n ((i + j) % n) := by
  show (rot n i).map (at0 (rot n j)) = _
  unfold rot
  rw [List.map_map]
  refine List.map_congr_left fun k hk => ?_
  have hk' := List.mem_range.mp hk
  show at0 (rot n j) ((k + i) % n) = _
  rw [at_rot (Nat.mod_lt _ (by omega)), Nat.mod_add_mod, Nat.add_mod_mod, Nat.add_assoc]
theorem rot_zero (n : Nat) : rot n 0 = idN n := by
  unfold rot idN
  conv => rhs; rw [← List.map_id (List.range n)]
  refine List.map_congr_left fun k hk => ?_
  rw [Nat.add_zero]
  exact Nat.mod_eq_of_lt (List.mem_range.mp hk)
theorem bnd_wheel {n : Nat} (h1 : 1 ≤ n) : Bnd n [rot n 1] ((List.range n).map (rot n)) n where
  rows := fun m hm => by rw [List.mem_singleton.mp hm]; exact rot_row
  one := List.mem_map.mpr ⟨0, List.mem_range.mpr h1, rot_zero n⟩
  step := fun x hx m hm => by
    obtain ⟨j, _, rfl⟩ := List.mem_map.mp hx
    rw [List.mem_singleton.mp hm, then_rot]
    exact List.mem_map.mpr ⟨_, List.mem_range.mpr (Nat.mod_lt _ (by omega)), rfl⟩
  len := by rw [List.length_map, List.length_range]; exact Nat.le_refl _
def rot2 (f o i j : Nat) : List Nat := rot f i ++ (rot o j).map fun x => f + x
theorem rot2_row {f o i j : Nat} : RowN (f + o) (rot2 f o i j) := by
  unfold rot2
  refine ⟨by rw [List.length_append, List.length_map, rot_len, rot_len], fun x hx => ?_⟩
  rcases List.mem_append.mp hx with hx | hx
  · have := rot_row.2 x hx
    omega
  · obtain ⟨k, hk, rfl⟩ := List.mem_map.mp hx
    have := rot_row.2 k hk
    show f + k < f + o
    omega
theorem at_rot2 {f o i j x : Nat} (h : x < f) : at0 (rot2 f o i j) x = at0 (rot f i) x := by
  unfold at0 rot2
  rw [List.getD_eq_getElem?_getD, List.getD_eq_getElem?_getD, List.getElem?_append_left (by rw [rot_len]; exact h)]
theorem at_rot2' {f o i j x : Nat} (h : x < o) : at0 (rot2 f o i j) (f + x) = f + at0 (rot o j) x := by
  have e := at0_some (p := rot o j) (i := x) (by rw [rot_len]; exact h)
  unfold at0 rot2
  rw [List.getD_eq_getElem?_getD, List.getElem?_append_right (by rw [rot_len]; omega), rot_len, Nat.add_sub_cancel_left, List.getElem?_map, e]
  rfl
theorem then_rot2 (f o i j a b : Nat) : thenN (rot2 f o i j) (rot2 f o a b) = rot2 f o ((i + a) % f) ((j + b) % o) := by
  show (rot f i ++ (rot o j).map fun x => f + x).map (at0 (rot2 f o a b)) = rot f ((i + a) % f) ++ (rot o ((j + b) % o)).map fun x => f + x
  rw [List.map_append, List.map_map, ← then_rot, ← then_rot]
  have e1 : (rot f i).map (at0 (rot2 f o a b)) = thenN (rot f i) (rot f a) := List.map_congr_left fun x hx => at_rot2 (rot_row.2 x hx)
  have e2 : (rot o j).map (at0 (rot2 f o a b) ∘ fun x => f + x) = (thenN (rot o j) (rot o b)).map fun x => f + x := by
    show _ = ((rot o j).map (at0 (rot o b))).map fun x => f + x
    rw [List.map_map]
    exact List.map_congr_left fun x hx => at_rot2' (rot_row.2 x hx)
  rw [e1, e2]
theorem id_two (f o : Nat) : rot2 f o 0 0 = idN (f + o) := by
  unfold rot2
  rw [rot_zero, rot_zero]
  unfold idN
  rw [List.range_add]
theorem bnd_two {f o : Nat} (hf : 1 ≤ f) (ho : 1 ≤ o) : Bnd (f + o) [rot2 f o 1 0, rot2 f o 0 1] ((List.range f).flatMap fun i => (List.range o).map fun j => rot2 f o i j) (f * o) where
  rows := fun m hm => by
    rcases List.mem_cons.mp hm with rfl | hm
    · exact rot2_row
    · rw [List.mem_singleton.mp hm]; exact rot2_row
  one := List.mem_flatMap.mpr ⟨0, List.mem_range.mpr hf, List.mem_map.mpr ⟨0, List.mem_range.mpr ho, id_two f o⟩⟩
  step := fun x hx m hm => by
    obtain ⟨i, hi, h2⟩ := List.mem_flatMap.mp hx
    obtain ⟨j, hj, rfl⟩ := List.mem_map.mp h2
    have go : ∀ a b, thenN (rot2 f o i j) (rot2 f o a b) ∈ (List.range f).flatMap fun i => (List.range o).map fun j => rot2 f o i j := fun a b => by
      rw [then_rot2]
      exact List.mem_flatMap.mpr ⟨_, List.mem_range.mpr (Nat.mod_lt _ (by omega)), List.mem_map.mpr ⟨_, List.mem_range.mpr (Nat.mod_lt _ (by omega)), rfl⟩⟩
    rcases List.mem_cons.mp hm with rfl | hm
    · exact go 1 0
    · rw [List.mem_singleton.mp hm]; exact go 0 1
  len := by
    have : ∀ l : List Nat, (l.flatMap fun i => (List.range o).map fun j => rot2 f o i j).length = l.length * o := by
      intro l
      induction l with
      | nil => simp
      | cons x l ih => rw [List.flatMap_cons, List.length_append, ih, List.length_map, List.length_range, List.length_cons, Nat.succ_mul, Nat.add_comm]
    rw [this, List.length_range]
    exact Nat.le_refl _
/-! the small ones of the law -/
def reflN (n : Nat) : List Nat := (List.range n).map fun k => (n - k) % n
def permB (n : Nat) (p : List Nat) : Bool := decide (p.length = n) && p.all (fun x => decide (x < n)) && decide p.Nodup
theorem perm_of {n : Nat} {p : List Nat} (h : permB n p = true) : Perm n p := by
  unfold permB at h
  simp only [Bool.and_eq_true, List.all_eq_true, decide_eq_true_eq] at h
  exact ⟨h.1.1, h.1.2, h.2⟩
theorem wheel_perm {n : Nat} (h1 : 1 ≤ n) (h : n ≤ 6) : Perm n (rot n 1) ∧ Perm n (reflN n) := by
  match n, h1, h with
  | 1, _, _ => exact ⟨perm_of (by decide +kernel), perm_of (by decide +kernel)⟩
  | 2, _, _ => exact ⟨perm_of (by decide +kernel), perm_of (by decide +kernel)⟩
  | 3, _, _ => exact ⟨perm_of (by decide +kernel), perm_of (by decide +kernel)⟩
  | 4, _, _ => exact ⟨perm_of (by decide +kernel), perm_of (by decide +kernel)⟩
  | 5, _, _ => exact ⟨perm_of (by decide +kernel), perm_of (by decide +kernel)⟩
  | 6, _, _ => exact ⟨perm_of (by decide +kernel), perm_of (by decide +kernel)⟩
end G
namespace L17
open PySem PySem.Spec PyProof.Rows L2 G
local macro_rules | `(tactic| walk_at "rd1") => `(tactic| first
  | (with_reducible refine r_seq ?_) | (with_reducible refine r_set ?_)
  | ((with_reducible refine' r_var ?rdh ?_); (case rdh => exact rfl))
  | (with_reducible refine r_c ?_) | (with_reducible refine r_op ?_) | (with_reducible refine r_un ?_) | (with_reducible refine r_cb ?_)
  | (with_reducible refine r_cons ?_) | (with_reducible refine r_nil ?_) | (with_reducible refine r_call ?_)
  | (with_reducible refine r_test ?_) | (with_reducible refine r_tb ?_) | (with_reducible refine r_bl ?_)
  | (with_reducible refine r_if ?_) | (with_reducible refine r_yes ?_) | (with_reducible refine r_ifx ?_) | (with_reducible refine r_and ?_) | (with_reducible refine r_or ?_) | (with_reducible refine r_not ?_)
  | (with_reducible refine r_andV ?_) | (with_reducible refine r_orV ?_) | (with_reducible refine r_notV ?_)
  | (with_reducible refine r_ret ?_) | (with_reducible refine r_retN ?_) | (with_reducible refine r_next ?_) | (with_reducible refine r_drop ?_) | (with_reducible refine r_asg ?_)
  | (with_reducible refine r_tup ?_) | (with_reducible refine r_lst ?_)
  | (with_reducible refine r_I0 ?_) | (with_reducible refine r_U ?_) | (with_reducible refine r_eqI ?_) | (with_reducible refine r_neI ?_) | (with_reducible refine r_eqS ?_) | (with_reducible refine r_neS ?_) | (with_reducible refine r_eqB ?_) | (with_reducible refine r_neB ?_)
  | (with_reducible refine r_int1 ?_) | (with_reducible refine r_isN ?_) | (with_reducible refine r_notN ?_)
  | (with_reducible refine iteT ?_) | (with_reducible refine iteF ?_)
  | (with_reducible refine r_sl ?_) | (with_reducible refine r_noPart ?_) | (with_reducible refine r_part ?_) | (with_reducible refine r_pint ?_)
  | ((with_reducible refine' r_isi (.ty _) ?rdt ?rdk ?_); (case rdt => first | exact .base (.int _) | exact .base (.str _) | exact .base (.bl _) | exact .base .non | exact tyx_sqL (by assumption) | exact tyx_sqT (by assumption)); (case rdk => first | exact kt_NoneType_list | exact kt_NoneType_tuple | exact kt_NoneType_bool | exact kt_NoneType_int | exact kt_NoneType_str | exact kt_bool_list | exact kt_bool_tuple | exact kt_bool_bool | exact kt_bool_int | exact kt_bool_str | exact kt_int_list | exact kt_int_tuple | exact kt_int_bool | exact kt_int_int | exact kt_int_str | exact kt_str_list | exact kt_str_tuple | exact kt_str_bool | exact kt_str_int | exact kt_str_str | exact kt_list_list | exact kt_list_tuple | exact kt_list_bool | exact kt_list_int | exact kt_list_str | exact kt_tuple_list | exact kt_tuple_tuple | exact kt_tuple_bool | exact kt_tuple_int | exact kt_tuple_str))
  | (with_reducible refine r_gn ?_) | (with_reducible refine r_gsub ?_) | (with_reducible refine r_chain ?_) | (with_reducible refine r_inSg ?_) | (with_reducible refine r_notInSg ?_) | (with_reducible refine r_bmS ?_) | ((with_reducible show tLc _ _ _ _ _ _ _ _); (first | show iStr _ _ _ _ | show iList _ _ _ _ _ | show iTup _ _ _ _ _ | show iRng1 _ _ _ _ | show iRng2 _ _ _ _)) | (with_reducible refine r_iStr ?_) | (with_reducible refine r_iList ?_) | (with_reducible refine r_iTup ?_) | (with_reducible refine r_str1 ?_) | (with_reducible refine r_ref1 ?_)
  | (with_reducible refine iteNT ?_) | (with_reducible refine iteNF ?_)
  | (with_reducible refine r_fdiv ⟨by decide, by decide⟩ ?_) | (with_reducible refine r_mod (by first | decide | assumption) ?_) | (with_reducible refine r_mul (.inr ⟨by decide, by decide⟩) ?_) | (with_reducible refine r_mul (.inl ⟨by decide, by decide⟩) ?_) | (with_reducible refine r_pow ⟨by decide, by decide, by decide⟩ ?_)
  | ((with_reducible show tFor _ _ _ _ _ _); (first | show iStr _ _ _ _ | show iList _ _ _ _ _ | show iTup _ _ _ _ _ | show iRng1 _ _ _ _ | show iRng2 _ _ _ _)) | (with_reducible refine r_rng1 ?_) | (with_reducible refine r_bmL ?_) | (with_reducible refine r_break ?_) | (with_reducible refine r_cont ?_))
local macro_rules | `(tactic| walk_at "rd") => `(tactic| repeat walk_at "rd1")
section
def topS (i : Nat) : Stmt := PySem.Challenge.pw_turnsandthrows_k17_generated.main.body.getD i (.Pass ⟨0, 0, 0, 0⟩)
abbrev s_l_cell : Stmt := topS 7
abbrev N_l_cell : List Str := ["script", "k"]
theorem sc_l_cell : FnScope N_l_cell ["script", "k"] (defScope s_l_cell) := ⟨rfl, rfl, rfl, by decide +kernel, rfl, by decide +kernel, by decide +kernel⟩
abbrev s_l_numbers : Stmt := topS 8
abbrev N_l_numbers : List Str := ["cell", "count", "numbers", "k", "mixed"]
theorem sc_l_numbers : FnScope N_l_numbers ["cell", "count"] (defScope s_l_numbers) := ⟨rfl, rfl, rfl, by decide +kernel, rfl, by decide +kernel, by decide +kernel⟩
abbrev s_l_same : Stmt := topS 9
abbrev N_l_same : List Str := ["actual", "due", "k"]
theorem sc_l_same : FnScope N_l_same ["actual", "due"] (defScope s_l_same) := ⟨rfl, rfl, rfl, by decide +kernel, rfl, by decide +kernel, by decide +kernel⟩
abbrev s_then : Stmt := topS 2
abbrev N_then : List Str := ["p", "q", "place"]
theorem sc_then : FnScope N_then ["p", "q"] (defScope s_then) := ⟨rfl, rfl, rfl, by decide +kernel, rfl, by decide +kernel, by decide +kernel⟩
abbrev s_l_then : Stmt := topS 11
abbrev N_l_then : List Str := ["p", "q", "place"]
theorem sc_l_then : FnScope N_l_then ["p", "q"] (defScope s_l_then) := ⟨rfl, rfl, rfl, by decide +kernel, rfl, by decide +kernel, by decide +kernel⟩
abbrev s_l_permutation : Stmt := topS 10
abbrev N_l_permutation : List Str := ["numbers", "places", "p", "k", "j", "held"]
theorem sc_l_permutation : FnScope N_l_permutation ["numbers", "places"] (defScope s_l_permutation) := ⟨rfl, rfl, rfl, by decide +kernel, rfl, by decide +kernel, by decide +kernel⟩
abbrev s_products : Stmt := topS 5
abbrev N_products : List Str := ["places", "makers", "most", "queue", "found", "at", "maker", "product"]
theorem sc_products : FnScope N_products ["places", "makers", "most"] (defScope s_products) := ⟨rfl, rfl, rfl, by decide +kernel, rfl, by decide +kernel, by decide +kernel⟩
abbrev s_grown : Stmt := topS 4
abbrev N_grown : List Str := ["places", "permutations", "most", "makers", "group", "permutation"]
theorem sc_grown : FnScope N_grown ["places", "permutations", "most"] (defScope s_grown) := ⟨rfl, rfl, rfl, by decide +kernel, rfl, by decide +kernel, by decide +kernel⟩
abbrev s_generated : Stmt := topS 3
abbrev N_generated : List Str := ["places", "permutations"]
theorem sc_generated : FnScope N_generated ["places", "permutations"] (defScope s_generated) := ⟨rfl, rfl, rfl, by decide +kernel, rfl, by decide +kernel, by decide +kernel⟩
abbrev s_l_closed : Stmt := topS 12
abbrev N_l_closed : List Str := ["places", "permutations", "found", "waiting", "turn", "current", "p", "target"]
theorem sc_l_closed : FnScope N_l_closed ["places", "permutations"] (defScope s_l_closed) := ⟨rfl, rfl, rfl, by decide +kernel, rfl, by decide +kernel, by decide +kernel⟩
abbrev s_l_generators : Stmt := topS 13
abbrev N_l_generators : List Str := ["numbers", "places", "sort", "wheel", "square", "other", "k"]
theorem sc_l_generators : FnScope N_l_generators ["numbers", "places"] (defScope s_l_generators) := ⟨rfl, rfl, rfl, by decide +kernel, rfl, by decide +kernel, by decide +kernel⟩
abbrev s_law : Stmt := topS 14
abbrev N_law : List Str := ["script", "numbers", "places", "permutations", "first", "other", "one", "two", "handed", "due", "told", "k"]
theorem sc_law : FnScope N_law ["script"] (defScope s_law) := ⟨rfl, rfl, rfl, by decide +kernel, rfl, by decide +kernel, by decide +kernel⟩
structure Ad where
  f_l_cell : Addr
  d_l_cell : FuncData
  f_l_numbers : Addr
  d_l_numbers : FuncData
  f_l_same : Addr
  d_l_same : FuncData
  f_then : Addr
  d_then : FuncData
  f_l_then : Addr
  d_l_then : FuncData
  f_l_permutation : Addr
  d_l_permutation : FuncData
  f_products : Addr
  d_products : FuncData
  f_grown : Addr
  d_grown : FuncData
  f_generated : Addr
  d_generated : FuncData
  f_l_closed : Addr
  d_l_closed : FuncData
  f_l_generators : Addr
  d_l_generators : FuncData
  f_law : Addr
  d_law : FuncData
structure Txt (K : PySem.W.Frag) (mg : Str → Option Value) (a : Ad) : Prop where
  F_l_cell : Fun K "_law_cell" "_law_cell" s_l_cell a.f_l_cell a.d_l_cell
  b_l_cell : Binds K a.d_l_cell ["script", "k"] []
  g_l_cell : mg "_law_cell" = some (.ref a.f_l_cell)
  F_l_numbers : Fun K "_law_numbers" "_law_numbers" s_l_numbers a.f_l_numbers a.d_l_numbers
  b_l_numbers : Binds K a.d_l_numbers ["cell", "count"] []
  g_l_numbers : mg "_law_numbers" = some (.ref a.f_l_numbers)
  F_l_same : Fun K "_law_same" "_law_same" s_l_same a.f_l_same a.d_l_same
  b_l_same : Binds K a.d_l_same ["actual", "due"] []
  g_l_same : mg "_law_same" = some (.ref a.f_l_same)
  F_then : Fun K "then" "then" s_then a.f_then a.d_then
  b_then : Binds K a.d_then ["p", "q"] []
  g_then : mg "then" = some (.ref a.f_then)
  F_l_then : Fun K "_law_then" "_law_then" s_l_then a.f_l_then a.d_l_then
  b_l_then : Binds K a.d_l_then ["p", "q"] []
  g_l_then : mg "_law_then" = some (.ref a.f_l_then)
  F_l_permutation : Fun K "_law_permutation" "_law_permutation" s_l_permutation a.f_l_permutation a.d_l_permutation
  b_l_permutation : Binds K a.d_l_permutation ["numbers", "places"] []
  g_l_permutation : mg "_law_permutation" = some (.ref a.f_l_permutation)
  F_products : Fun K "products" "products" s_products a.f_products a.d_products
  b_products : Binds K a.d_products ["places", "makers", "most"] []
  g_products : mg "products" = some (.ref a.f_products)
  F_grown : Fun K "grown" "grown" s_grown a.f_grown a.d_grown
  b_grown : Binds K a.d_grown ["places", "permutations", "most"] []
  g_grown : mg "grown" = some (.ref a.f_grown)
  F_generated : Fun K "generated" "generated" s_generated a.f_generated a.d_generated
  b_generated : Binds K a.d_generated ["places", "permutations"] []
  g_generated : mg "generated" = some (.ref a.f_generated)
  F_l_closed : Fun K "_law_closed" "_law_closed" s_l_closed a.f_l_closed a.d_l_closed
  b_l_closed : Binds K a.d_l_closed ["places", "permutations"] []
  g_l_closed : mg "_law_closed" = some (.ref a.f_l_closed)
  F_l_generators : Fun K "_law_generators" "_law_generators" s_l_generators a.f_l_generators a.d_l_generators
  b_l_generators : Binds K a.d_l_generators ["numbers", "places"] []
  g_l_generators : mg "_law_generators" = some (.ref a.f_l_generators)
  F_law : Fun K "law" "law" s_law a.f_law a.d_law
  b_law : Binds K a.d_law ["script"] []
  g_law : mg "law" = some (.ref a.f_law)
  z_bool : mg "bool" = none
  z_int : mg "int" = none
  z_isinstance : mg "isinstance" = none
  z_len : mg "len" = none
  z_list : mg "list" = none
  z_range : mg "range" = none
  z_sorted : mg "sorted" = none
  z_str : mg "str" = none
  z_tuple : mg "tuple" = none
  m_factorial : mg "factorial" = some (.builtin "math.factorial")
end

section
variable {P : Program} {w : World} {K : PySem.W.Frag} {mg : Str → Option Value} {base : Heap} {a : Ad}
theorem ok_l_cell (T : Txt K mg a) : FnOk P w K mg base CX0 1 a.f_l_cell a.d_l_cell ["script", "k"] (spCellG K) := by
  refine T.F_l_cell.ok sc_l_cell (fun vs H Q E h => ?_) (fun cdv A outer s H vs Q E hr h => ?_)
  · obtain ⟨l, ns, k, rfl, _⟩ := h
    rfl
  · obtain ⟨l, ns, k, rfl, hS, h0, q⟩ := h
    refine ⟨_, (pss_cons (ps_if (pt_cmpR op_lt (pv 1) (pe_callB (call_lenQK (K := K) rfl) (by rfl) T.z_len (by decide +kernel) (pa_cons (pv 0) pa_nil)) (nomark _)) (pss_one (ps_ret (pe_ix (ix_listK (K := K) rfl) (pv 0) (pv 1) (fun _ _ => rfl)))) pss_nil)
      (pss_one (ps_ret pe_int))), ?_⟩
    walk_at "rd"
    refine r_lenL hS ?_
    walk_at "rd"
    rw [List.length_map]
    refine r_iteD (fun hk => ?_) (fun hk => ?_)
    · walk_at "rd"
      have hk' : k.toNat < ns.length := by omega
      refine r_ixL hS (at_of (j := k.toNat) (by omega) (by rw [List.getElem?_map, List.getElem?_eq_getElem hk']; rfl)) ?_
      have e : cellV ns k = ns[k.toNat] := by unfold cellV; rw [List.getD_eq_getElem?_getD, List.getElem?_eq_getElem hk']; rfl
      rw [e] at q
      exact q
    · walk_at "rd"
      have e : cellV ns k = 0 := by unfold cellV; rw [List.getD_eq_getElem?_getD, List.getElem?_eq_none (by omega)]; rfl
      rw [e] at q
      exact q

theorem ok_l_numbers (T : Txt K mg a) : FnOk P w K mg base CX0 1 a.f_l_numbers a.d_l_numbers ["cell", "count"] (spNums K) := by
  refine T.F_l_numbers.ok sc_l_numbers (fun vs H Q E h => ?_) (fun cdv A outer s H vs Q E hr h => ?_)
  · obtain ⟨c, n, rfl, _⟩ := h
    rfl
  · obtain ⟨c, n, rfl, hn, q⟩ := h
    refine ⟨_, (pss_cons (ps_set (i := 2) sc_l_numbers.nd rfl (Or.inl rfl) (pe_lst pa_nil))
      (pss_cons (ps_if (pt_cmpR op_ge (pv 0) (pe_op op_pow pe_int pe_int) (nomark _)) (pss_cons (ps_for PassesOwn.never rfl (pi_range1 (by rfl) T.z_range (pa_cons (pv 1) pa_nil)) (pg_name (i := 3) sc_l_numbers.nd rfl (Or.inl rfl)) (pss_cons (ps_expr (bmK (K := K) rfl (pe_bm PySem.F.plainAttrs_list PySem.F.slot_list_append PySem.F.type_list_append mt_append (pv 2) (pa_cons (pe_op op_mod (pe_callTy call_int1' (by rfl) T.z_int (by decide +kernel) (pa_cons (pv 0) pa_nil)) pe_int) pa_nil))))
      (pss_one (ps_set (i := 0) sc_l_numbers.nd rfl (Or.inl rfl) (pe_op op_fdiv (pv 0) pe_int)))))
      (pss_one (ps_ret (pv 2)))) pss_nil)
      (pss_cons (ps_set (i := 4) sc_l_numbers.nd rfl (Or.inl rfl) (pe_op op_mod (pe_callTy call_int1' (by rfl) T.z_int (by decide +kernel) (pa_cons (pv 0) pa_nil)) pe_int))
      (pss_cons (ps_for PassesOwn.never rfl (pi_range1 (by rfl) T.z_range (pa_cons (pv 1) pa_nil)) (pg_name (i := 3) sc_l_numbers.nd rfl (Or.inl rfl)) (pss_cons (ps_set (i := 4) sc_l_numbers.nd rfl (Or.inl rfl) (pe_op op_mod (pe_callTy call_int1' (by rfl) T.z_int (by decide +kernel) (pa_cons (pe_op op_add (pe_op op_mul (pv 4) pe_int) (pe_op op_mul pe_int (pe_op op_add (pv 3) pe_int))) pa_nil)) pe_int))
      (pss_one (ps_expr (bmK (K := K) rfl (pe_bm PySem.F.plainAttrs_list PySem.F.slot_list_append PySem.F.type_list_append mt_append (pv 2) (pa_cons (pe_op op_mod (pe_op op_fdiv (pv 4) pe_int) pe_int) pa_nil)))))))
      (pss_one (ps_ret (pv 2))))))), ?_⟩
    have zl : (sizeLine : Nat) = 16777216 := by decide
    walk_at "rd"
    refine ⟨by decide, fun p hp => ?_⟩
    walk_at "rd"
    refine r_iteD (fun _ => ?_) (fun _ => ?_)
    · walk_at "rd"
      refine r_rng1' (by omega) (by omega) ?_
      rw [Int.toNat_natCast]
      refine for_range (lo := 0) (n := n) (fun i σ H' => ∃ c' ns y3, σ = [some (.int c'), some (.int (n : Int)), some (.ref p), y3, none] ∧ Same H H' ∧ H' p = some (.lst (ns.map V.int)) ∧ ns.length = i ∧ ∀ z ∈ ns, 0 ≤ z ∧ z < 1000)
        ⟨c, [], none, rfl, same_new hp, upd_same, rfl, fun z hz => nomatch hz⟩ (fun i σ H' hi hP => ?_) (fun σ H' hP => ?_)
      · obtain ⟨c', ns, y3, rfl, sm, hN, hl, hz⟩ := hP
        walk_at "rd"
        refine ⟨ty_l (SqL.of hN), ?_⟩
        walk_at "rd"
        refine r_append hN (by rw [List.length_map]; omega) ?_
        walk_at "rd"
        refine ⟨_, ns ++ [c' % 1000], _, rfl, same_mut sm hp, by rw [upd_same, List.map_append]; rfl, by rw [List.length_append, hl]; rfl, fun z h => ?_⟩
        rcases List.mem_append.mp h with h | h
        · exact hz z h
        · rw [List.mem_singleton.mp h]; exact emod_rng _ (by decide)
      · obtain ⟨c', ns, y3, rfl, sm, hN, hl, hz⟩ := hP
        walk_at "rd"
        exact q H' p ns sm hp hN hl hz
    · walk_at "rd"
      refine r_rng1' (by omega) (by omega) ?_
      rw [Int.toNat_natCast]
      refine for_range (lo := 0) (n := n) (fun i σ H' => ∃ m ns y3, σ = [some (.int c), some (.int (n : Int)), some (.ref p), y3, some (.int m)] ∧ Same H H' ∧ H' p = some (.lst (ns.map V.int)) ∧ ns.length = i ∧ ∀ z ∈ ns, 0 ≤ z ∧ z < 1000)
        ⟨_, [], none, rfl, same_new hp, upd_same, rfl, fun z hz => nomatch hz⟩ (fun i σ H' hi hP => ?_) (fun σ H' hP => ?_)
      · obtain ⟨m, ns, y3, rfl, sm, hN, hl, hz⟩ := hP
        walk_at "rd"
        refine ⟨ty_l (SqL.of hN), ?_⟩
        walk_at "rd"
        refine r_append hN (by rw [List.length_map]; omega) ?_
        refine ⟨_, ns ++ [_ / 7 % 1000], _, rfl, same_mut sm hp, by rw [upd_same, List.map_append]; rfl, by rw [List.length_append, hl]; rfl, fun z h => ?_⟩
        rcases List.mem_append.mp h with h | h
        · exact hz z h
        · rw [List.mem_singleton.mp h]; exact emod_rng _ (by decide)
      · obtain ⟨m, ns, y3, rfl, sm, hN, hl, hz⟩ := hP
        walk_at "rd"
        exact q H' p ns sm hp hN hl hz

end

section
variable {P : Program} {w : World} {K : PySem.W.Frag} {mg : Str → Option Value} {base : Heap} {a : Ad}
theorem ok_l_same_n (T : Txt K mg a) : ∀ n, FnOk P w K mg base CX0 n a.f_l_same a.d_l_same ["actual", "due"] (spSame K n)
  | 0 => fn_vac fun vs H Q E h => by
    obtain ⟨x, y, d, _, _, _, hf, _⟩ := h
    cases d <;> exact hf
  | n + 1 => by
    have G_l_same := ok_l_same_n T n
    refine T.F_l_same.ok sc_l_same (fun vs H Q E h => ?_) (fun cdv A outer s H vs Q E hr h => ?_)
    · obtain ⟨x, y, d, rfl, _⟩ := h
      rfl
    · obtain ⟨x, y, d, rfl, hx, hy, hf, q⟩ := h
      refine ⟨_, (pss_cons (ps_if (pt_cmpR op_isN1 (pv 1) pe_non (nomark _)) (pss_one (ps_ret (pe_cmpR op_isN1 (pv 0) pe_non (nomark _)))) pss_nil)
      (pss_cons (ps_if (PW.pt (pw_or (pt_val (pe_callB (call_isiK1 (K := K) rfl) (by rfl) T.z_isinstance (by decide +kernel) (pa_cons (pv 1) (pa_cons (pe_bltn (by rfl) T.z_list (v := V.ty "list") (u := Value.type "list") (by decide +kernel) rfl) pa_nil)))) (pw_or1 (pt_val (pe_callB (call_isiK1 (K := K) rfl) (by rfl) T.z_isinstance (by decide +kernel) (pa_cons (pv 1) (pa_cons (pe_bltn (by rfl) T.z_tuple (v := V.ty "tuple") (u := Value.type "tuple") (by decide +kernel) rfl) pa_nil))))))) (pss_cons (ps_if (PW.pt (pw_or (pt_cmpR op_ne (pe_callB (call_isiK1 (K := K) rfl) (by rfl) T.z_isinstance (by decide +kernel) (pa_cons (pv 1) (pa_cons (pe_bltn (by rfl) T.z_list (v := V.ty "list") (u := Value.type "list") (by decide +kernel) rfl) pa_nil))) (pe_callB (call_isiK1 (K := K) rfl) (by rfl) T.z_isinstance (by decide +kernel) (pa_cons (pv 0) (pa_cons (pe_bltn (by rfl) T.z_list (v := V.ty "list") (u := Value.type "list") (by decide +kernel) rfl) pa_nil))) (nomark _)) (pw_or1 (pt_cmpR op_ne (pe_callB (call_isiK1 (K := K) rfl) (by rfl) T.z_isinstance (by decide +kernel) (pa_cons (pv 1) (pa_cons (pe_bltn (by rfl) T.z_tuple (v := V.ty "tuple") (u := Value.type "tuple") (by decide +kernel) rfl) pa_nil))) (pe_callB (call_isiK1 (K := K) rfl) (by rfl) T.z_isinstance (by decide +kernel) (pa_cons (pv 0) (pa_cons (pe_bltn (by rfl) T.z_tuple (v := V.ty "tuple") (u := Value.type "tuple") (by decide +kernel) rfl) pa_nil))) (nomark _))))) (pss_one (ps_ret pe_bl)) pss_nil)
      (pss_cons (ps_if (pt_cmpR op_ne (pe_callB (call_lenQK (K := K) rfl) (by rfl) T.z_len (by decide +kernel) (pa_cons (pv 0) pa_nil)) (pe_callB (call_lenQK (K := K) rfl) (by rfl) T.z_len (by decide +kernel) (pa_cons (pv 1) pa_nil)) (nomark _)) (pss_one (ps_ret pe_bl)) pss_nil)
      (pss_cons (ps_for PassesOwn.never rfl (pi_range1 (by rfl) T.z_range (pa_cons (pe_callB (call_lenQK (K := K) rfl) (by rfl) T.z_len (by decide +kernel) (pa_cons (pv 1) pa_nil)) pa_nil)) (pg_name (i := 2) sc_l_same.nd rfl (Or.inl rfl)) (pss_one (ps_if (pt_not (pt_val (pe_call (G_l_same) (hr.mono (by first | decide | omega)) (by rfl) T.g_l_same T.F_l_same.kp T.b_l_same .nil pass0 (pa_cons (pe_ix (ix_seqK (K := K) rfl) (pv 0) (pv 2) (fun _ _ => rfl)) (pa_cons (pe_ix (ix_seqK (K := K) rfl) (pv 1) (pv 2) (fun _ _ => rfl)) pa_nil))))) (pss_one (ps_ret pe_bl)) pss_nil)))
      (pss_one (ps_ret pe_bl))))) pss_nil)
      (pss_cons (ps_if (PW.pt (pw_or (pt_cmpR op_ne (pe_callB (call_isiK1 (K := K) rfl) (by rfl) T.z_isinstance (by decide +kernel) (pa_cons (pv 1) (pa_cons (pe_bltn (by rfl) T.z_bool (v := V.ty "bool") (u := Value.type "bool") (by decide +kernel) rfl) pa_nil))) (pe_callB (call_isiK1 (K := K) rfl) (by rfl) T.z_isinstance (by decide +kernel) (pa_cons (pv 0) (pa_cons (pe_bltn (by rfl) T.z_bool (v := V.ty "bool") (u := Value.type "bool") (by decide +kernel) rfl) pa_nil))) (nomark _)) (pw_or1 (pt_cmpR op_ne (pe_callB (call_isiK1 (K := K) rfl) (by rfl) T.z_isinstance (by decide +kernel) (pa_cons (pv 1) (pa_cons (pe_bltn (by rfl) T.z_int (v := V.ty "int") (u := Value.type "int") (by decide +kernel) rfl) pa_nil))) (pe_callB (call_isiK1 (K := K) rfl) (by rfl) T.z_isinstance (by decide +kernel) (pa_cons (pv 0) (pa_cons (pe_bltn (by rfl) T.z_int (v := V.ty "int") (u := Value.type "int") (by decide +kernel) rfl) pa_nil))) (nomark _))))) (pss_one (ps_ret pe_bl)) pss_nil)
      (pss_one (ps_ret (pe_and (pe_cmpR op_eq (pe_callB (call_isiK1 (K := K) rfl) (by rfl) T.z_isinstance (by decide +kernel) (pa_cons (pv 1) (pa_cons (pe_bltn (by rfl) T.z_str (v := V.ty "str") (u := Value.type "str") (by decide +kernel) rfl) pa_nil))) (pe_callB (call_isiK1 (K := K) rfl) (by rfl) T.z_isinstance (by decide +kernel) (pa_cons (pv 0) (pa_cons (pe_bltn (by rfl) T.z_str (v := V.ty "str") (u := Value.type "str") (by decide +kernel) rfl) pa_nil))) (nomark _)) (pe_one (pe_cmpR op_eq (pv 0) (pv 1) (nomark _))))))))), ?_⟩
      walk_at "rd"
      cases d with
      | none =>
        cases hx; cases hy
        refine r_iteD (fun _ => ?_) (fun e => absurd rfl e)
        walk_at "rd"
        exact q
      | bool b =>
        cases hx; cases hy
        refine r_iteD (fun e => nomatch e) (fun _ => ?_)
        walk_at "rd"
        refine r_iteN (fun e => absurd rfl e) (fun _ => ?_)
        walk_at "rd"
        refine r_iteN (fun e => absurd rfl e) (fun _ => ?_)
        walk_at "rd"
        refine r_iteD (fun _ => ?_) (fun e => absurd rfl e)
        walk_at "rd"
        rw [decide_eq_true rfl]
        exact q
      | int b =>
        cases hx; cases hy
        refine r_iteD (fun e => nomatch e) (fun _ => ?_)
        walk_at "rd"
        refine r_iteN (fun e => absurd rfl e) (fun _ => ?_)
        walk_at "rd"
        refine r_iteN (fun e => absurd rfl e) (fun _ => ?_)
        walk_at "rd"
        refine r_iteD (fun _ => ?_) (fun e => absurd rfl e)
        walk_at "rd"
        rw [decide_eq_true rfl]
        exact q
      | str b =>
        cases hx; cases hy
        refine r_iteD (fun e => nomatch e) (fun _ => ?_)
        walk_at "rd"
        refine r_iteN (fun e => absurd rfl e) (fun _ => ?_)
        walk_at "rd"
        refine r_iteN (fun e => absurd rfl e) (fun _ => ?_)
        walk_at "rd"
        refine r_iteD (fun _ => ?_) (fun e => absurd rfl e)
        walk_at "rd"
        rw [decide_eq_true rfl]
        exact q
      | dict _ => exact hf.elim
      | list ds =>
        cases hx with
        | lst hs1 ha1 =>
        cases hy with
        | lst hs2 ha2 =>
        have e1 := dpAll_len ha1
        have e2 := dpAll_len ha2
        refine r_iteD (fun e => nomatch e) (fun _ => ?_)
        walk_at "rd"
        refine r_iteN (fun e => absurd rfl e) (fun _ => ?_)
        walk_at "rd"
        refine r_iteN (fun e => absurd rfl e) (fun _ => ?_)
        walk_at "rd"
        refine r_lenL hs1 ?_
        walk_at "rd"
        refine r_lenL hs2 ?_
        walk_at "rd"
        refine r_iteN (fun e => absurd (by rw [e1, e2]) e) (fun _ => ?_)
        walk_at "rd"
        refine r_lenL hs2 ?_
        walk_at "rd"
        have hz : ds.length ≤ 16777216 := hf.1
        refine r_rng1' (by omega) (by omega) ?_
        rw [e2, Int.toNat_natCast]
        refine for_range (lo := 0) (n := ds.length) (fun i σ H' => H' = H ∧ ∃ kv, σ = [some _, some _, kv]) ⟨rfl, _, rfl⟩ (fun i σ H' hi hP => ?_) (fun σ H' hP => ?_)
        · obtain ⟨rfl, kv, rfl⟩ := hP
          obtain ⟨v1, g1, d1⟩ := dpAll_get ha1 (List.getElem?_eq_getElem hi)
          obtain ⟨v2, g2, d2⟩ := dpAll_get ha2 (List.getElem?_eq_getElem hi)
          show tIfS _ _ _ _ _ _
          walk_at "rd"
          refine r_xL hs1 (at_of (j := i) (by omega) g1) ?_
          walk_at "rd"
          refine r_xL hs2 (at_of (j := i) (by omega) g2) ?_
          walk_at "rd"
          refine ⟨v1, v2, ds[i], rfl, d1, d2, hf.2 _ (List.getElem_mem hi), ?_⟩
          walk_at "rd"
          exact ⟨rfl, _, rfl⟩
        · obtain ⟨rfl, kv, rfl⟩ := hP
          walk_at "rd"
          exact q
      | tuple ds =>
        cases hx with
        | tup hs1 ha1 =>
        cases hy with
        | tup hs2 ha2 =>
        have e1 := dpAll_len ha1
        have e2 := dpAll_len ha2
        refine r_iteD (fun e => nomatch e) (fun _ => ?_)
        walk_at "rd"
        refine r_iteN (fun e => absurd rfl e) (fun _ => ?_)
        walk_at "rd"
        refine r_iteN (fun e => absurd rfl e) (fun _ => ?_)
        walk_at "rd"
        refine r_lenT hs1 ?_
        walk_at "rd"
        refine r_lenT hs2 ?_
        walk_at "rd"
        refine r_iteN (fun e => absurd (by rw [e1, e2]) e) (fun _ => ?_)
        walk_at "rd"
        refine r_lenT hs2 ?_
        walk_at "rd"
        have hz : ds.length ≤ 16777216 := hf.1
        refine r_rng1' (by omega) (by omega) ?_
        rw [e2, Int.toNat_natCast]
        refine for_range (lo := 0) (n := ds.length) (fun i σ H' => H' = H ∧ ∃ kv, σ = [some _, some _, kv]) ⟨rfl, _, rfl⟩ (fun i σ H' hi hP => ?_) (fun σ H' hP => ?_)
        · obtain ⟨rfl, kv, rfl⟩ := hP
          obtain ⟨v1, g1, d1⟩ := dpAll_get ha1 (List.getElem?_eq_getElem hi)
          obtain ⟨v2, g2, d2⟩ := dpAll_get ha2 (List.getElem?_eq_getElem hi)
          show tIfS _ _ _ _ _ _
          walk_at "rd"
          refine r_xT hs1 (at_of (j := i) (by omega) g1) ?_
          walk_at "rd"
          refine r_xT hs2 (at_of (j := i) (by omega) g2) ?_
          walk_at "rd"
          refine ⟨v1, v2, ds[i], rfl, d1, d2, hf.2 _ (List.getElem_mem hi), ?_⟩
          walk_at "rd"
          exact ⟨rfl, _, rfl⟩
        · obtain ⟨rfl, kv, rfl⟩ := hP
          walk_at "rd"
          exact q
theorem ok_l_same (T : Txt K mg a) : FnOk P w K mg base CX0 4 a.f_l_same a.d_l_same ["actual", "due"] (spSame K 4) := ok_l_same_n T _

end

def spThenT (K : PySem.W.Frag) : Sp := fun vs H Q _ => ∃ (v u : V) (p q : List Nat), vs = [v, u] ∧ Dt K H v (rowD p) ∧ Dt K H u (rowD q) ∧ (∀ x ∈ p, x < q.length) ∧ p.length ≤ 1000 ∧
  ∀ (H' : Hp) (t : Addr), Same H H' → H' t = some (.tup ((thenN p q).map iV)) → Q (.ref t) H'
section
variable {P : Program} {w : World} {K : PySem.W.Frag} {mg : Str → Option Value} {base : Heap} {a : Ad}
theorem ok_then (T : Txt K mg a) : FnOk P w K mg base CX0 1 a.f_then a.d_then ["p", "q"] (spThenT K) := by
  refine T.F_then.ok sc_then (fun vs H Q E h => ?_) (fun cdv A outer s H vs Q E hr h => ?_)
  · obtain ⟨v, u, p, q, rfl, _⟩ := h
    rfl
  · obtain ⟨v, u, p, q, rfl, hp, hq, hlt, hl, q1⟩ := h
    have zl : (sizeLine : Nat) = 16777216 := by decide
    obtain ⟨pa, rfl, hA⟩ := rowE hp
    obtain ⟨qa, rfl, hB⟩ := rowE hq
    refine ⟨_, (pss_one (ps_ret (pe_callTy (call_tupOfK (K := K) rfl) (by rfl) T.z_tuple (by decide +kernel) (pa_cons (pe_lc (own := [("place", 2)]) (g := gName 2) (tt := tYes) rfl sc_then.nd (pi_tupK (K := K) rfl (pv 0)) (blkOk_by (N := N_then) (sc := (defScope s_then)) (by decide +kernel)) (fun _ _ _ _ _ => pg_name (i := 2) sc_then.nd rfl (by first | exact Or.inl rfl | exact Or.inr rfl)) (fun _ _ _ _ _ => pts_nil) (fun _ _ _ _ _ => (pe_ix (ix_tupK (K := K) rfl) (pv 1) (pv 2) (fun _ _ => rfl)))) pa_nil)))), ?_⟩
    walk_at "rd"
    refine ⟨⟨_, hA⟩, fun D hD => ?_⟩
    refine lc_tup (xs := p.map iV) (fun i G => Same H G ∧ G D = some (.lst (((p.take i).map (at0 q)).map iV))) ⟨same_new hD, by rw [upd_same]; rfl⟩ (fun i G _ hP => ?_) (fun i x G hx hP => ?_) (fun G hP => ?_)
    · exact same_t hP.1 hA
    · obtain ⟨sG, hG⟩ := hP
      obtain ⟨y, hy, rfl⟩ : ∃ y, p[i]? = some y ∧ iV y = x := by
        rw [List.getElem?_map] at hx
        obtain ⟨y, h1, h2⟩ := Option.map_eq_some_iff.mp hx
        exact ⟨y, h1, h2⟩
      have hil := (List.getElem?_eq_some_iff.mp hy).1
      refine ⟨rfl, r_yes (iteT ?_)⟩
      walk_at "rd"
      refine r_ixT (same_t sG hB) (at_row (hlt y (List.mem_of_getElem? hy))) ?_
      refine ⟨_, hG, by rw [List.length_map, List.length_map, List.length_take]; omega, same_mut sG hD, ?_⟩
      rw [upd_same, List.take_add_one, hy, List.map_append, List.map_append]
      rfl
    · obtain ⟨sG, hG⟩ := hP
      rw [List.length_map, List.take_length] at hG
      walk_at "rd"
      refine r_tupL (SqL.of hG) (fun t ht => ?_)
      exact q1 _ t (sG.trans (same_new ht)) upd_same

theorem ok_l_then (T : Txt K mg a) : FnOk P w K mg base CX0 1 a.f_l_then a.d_l_then ["p", "q"] (spThenT K) := by
  refine T.F_l_then.ok sc_l_then (fun vs H Q E h => ?_) (fun cdv A outer s H vs Q E hr h => ?_)
  · obtain ⟨v, u, p, q, rfl, _⟩ := h
    rfl
  · obtain ⟨v, u, p, q, rfl, hp, hq, hlt, hl, q1⟩ := h
    have zl : (sizeLine : Nat) = 16777216 := by decide
    obtain ⟨pa, rfl, hA⟩ := rowE hp
    obtain ⟨qa, rfl, hB⟩ := rowE hq
    refine ⟨_, (pss_one (ps_ret (pe_callTy (call_tupOfK (K := K) rfl) (by rfl) T.z_tuple (by decide +kernel) (pa_cons (pe_lc (own := [("place", 2)]) (g := gName 2) (tt := tYes) rfl sc_l_then.nd (pi_tupK (K := K) rfl (pv 0)) (blkOk_by (N := N_l_then) (sc := (defScope s_l_then)) (by decide +kernel)) (fun _ _ _ _ _ => pg_name (i := 2) sc_l_then.nd rfl (by first | exact Or.inl rfl | exact Or.inr rfl)) (fun _ _ _ _ _ => pts_nil) (fun _ _ _ _ _ => (pe_ix (ix_tupK (K := K) rfl) (pv 1) (pv 2) (fun _ _ => rfl)))) pa_nil)))), ?_⟩
    walk_at "rd"
    refine ⟨⟨_, hA⟩, fun D hD => ?_⟩
    refine lc_tup (xs := p.map iV) (fun i G => Same H G ∧ G D = some (.lst (((p.take i).map (at0 q)).map iV))) ⟨same_new hD, by rw [upd_same]; rfl⟩ (fun i G _ hP => ?_) (fun i x G hx hP => ?_) (fun G hP => ?_)
    · exact same_t hP.1 hA
    · obtain ⟨sG, hG⟩ := hP
      obtain ⟨y, hy, rfl⟩ : ∃ y, p[i]? = some y ∧ iV y = x := by
        rw [List.getElem?_map] at hx
        obtain ⟨y, h1, h2⟩ := Option.map_eq_some_iff.mp hx
        exact ⟨y, h1, h2⟩
      have hil := (List.getElem?_eq_some_iff.mp hy).1
      refine ⟨rfl, r_yes (iteT ?_)⟩
      walk_at "rd"
      refine r_ixT (same_t sG hB) (at_row (hlt y (List.mem_of_getElem? hy))) ?_
      refine ⟨_, hG, by rw [List.length_map, List.length_map, List.length_take]; omega, same_mut sG hD, ?_⟩
      rw [upd_same, List.take_add_one, hy, List.map_append, List.map_append]
      rfl
    · obtain ⟨sG, hG⟩ := hP
      rw [List.length_map, List.take_length] at hG
      walk_at "rd"
      refine r_tupL (SqL.of hG) (fun t ht => ?_)
      exact q1 _ t (sG.trans (same_new ht)) upd_same

def spPerm (K : PySem.W.Frag) : Sp := fun vs H Q _ => ∃ (p : Addr) (ns : List Int) (n : Nat), vs = [.ref p, .int (n : Int)] ∧ SqL K H p (ns.map V.int) ∧ n ≤ ns.length ∧ n ≤ 1000 ∧
  ∀ (H' : Hp) (t : Addr) (r : List Nat), Same H H' → H' t = some (.tup (r.map iV)) → Perm n r → Q (.ref t) H'
theorem swap_perm {n : Nat} {r : List Nat} (h : Perm n r) {i j : Nat} (hi : i < n) (hj : j < n) : Perm n ((r.set i (at0 r j)).set j (at0 r i)) := by
  have hl := h.len
  have gi := at0_some (p := r) (i := i) (by omega)
  have gj := at0_some (p := r) (i := j) (by omega)
  refine ⟨by rw [List.length_set, List.length_set]; exact hl, fun x hx => ?_, ?_⟩
  · rcases List.mem_or_eq_of_mem_set hx with hx | hx
    · rcases List.mem_or_eq_of_mem_set hx with hx | hx
      · exact h.lt x hx
      · rw [hx]; exact h.at_lt hj
    · rw [hx]; exact h.at_lt hi
  · refine List.pairwise_iff_getElem.mpr fun a b ha hb hab e => ?_
    rw [List.length_set, List.length_set] at ha hb
    have val : ∀ k (hk : k < r.length), ((r.set i (at0 r j)).set j (at0 r i))[k]? = some (if k = j then at0 r i else if k = i then at0 r j else at0 r k) := fun k hk => by
      by_cases e1 : j = k
      · subst e1
        rw [List.getElem?_set_self (by rw [List.length_set]; exact hk), if_pos rfl]
      · rw [List.getElem?_set_ne e1, if_neg (Ne.symm e1)]
        by_cases e2 : i = k
        · subst e2
          rw [List.getElem?_set_self hk, if_pos rfl]
        · rw [List.getElem?_set_ne e2, if_neg (Ne.symm e2)]
          exact at0_some hk
    have va := val a ha
    have vb := val b hb
    rw [List.getElem?_eq_getElem (by rw [List.length_set, List.length_set]; exact ha)] at va
    rw [List.getElem?_eq_getElem (by rw [List.length_set, List.length_set]; exact hb)] at vb
    have e3 := (Option.some.inj va).symm.trans (e.trans (Option.some.inj vb))
    have inj : ∀ x y, x < n → y < n → at0 r x = at0 r y → x = y := fun x y hx hy e => h.inj hx hy e
    clear va vb val e
    repeat' split at e3
    all_goals
      have h5 := inj _ _ (by omega) (by omega) e3
      omega
theorem ok_l_permutation (T : Txt K mg a) : FnOk P w K mg base CX0 1 a.f_l_permutation a.d_l_permutation ["numbers", "places"] (spPerm K) := by
  refine T.F_l_permutation.ok sc_l_permutation (fun vs H Q E h => ?_) (fun cdv A outer s H vs Q E hr h => ?_)
  · obtain ⟨p, ns, n, rfl, _⟩ := h
    rfl
  · obtain ⟨pn, ns, n, rfl, hS, hnl, h1000, q⟩ := h
    have zl : (sizeLine : Nat) = 16777216 := by decide
    refine ⟨_, (pss_cons (ps_set (i := 2) sc_l_permutation.nd rfl (Or.inl rfl) (pe_listRg rfl (by rfl) T.z_list (prg_1 (by rfl) T.z_range (pv 1))))
      (pss_cons (ps_for PassesOwn.never rfl (pi_range1 (by rfl) T.z_range (pa_cons (pv 1) pa_nil)) (pg_name (i := 3) sc_l_permutation.nd rfl (Or.inl rfl)) (pss_cons (ps_set (i := 4) sc_l_permutation.nd rfl (Or.inl rfl) (pe_op op_mod (pe_ix (ix_listK (K := K) rfl) (pv 0) (pv 3) (fun _ _ => rfl)) (pv 1)))
      (pss_cons (ps_set (i := 5) sc_l_permutation.nd rfl (Or.inl rfl) (pe_ix (ix_listK (K := K) rfl) (pv 2) (pv 3) (fun _ _ => rfl)))
      (pss_cons (ps_asg (pe_ix (ix_listK (K := K) rfl) (pv 2) (pv 4) (fun _ _ => rfl)) (pg_sub (pv 2) (pv 3) set_list))
      (pss_one (ps_asg (pv 5) (pg_sub (pv 2) (pv 4) set_list)))))))
      (pss_one (ps_ret (pe_callTy (call_tupOfK (K := K) rfl) (by rfl) T.z_tuple (by decide +kernel) (pa_cons (pv 2) pa_nil)))))), ?_⟩
    walk_at "rd"
    refine r_lstRg1 (j := (n : Int)) (by omega) (by omega) (fun pa hpa => ?_) ⟨_, rfl, rfl, rfl⟩ (fun R R' h1 h2 => ?_)
    rotate_left
    · obtain ⟨v, e, h3⟩ := h2
      exact ⟨v, e, h1 _ _ h3⟩
    rw [Int.toNat_natCast, ← ints_nat]
    walk_at "rd"
    refine r_rng1' (by omega) (by omega) ?_
    rw [Int.toNat_natCast]
    refine for_range (lo := 0) (n := n) (fun i σ G => ∃ y3 y4 y5 r, σ = [some (.ref pn), some (.int (n : Int)), some (.ref pa), y3, y4, y5] ∧ Same H G ∧ G pa = some (.lst (r.map iV)) ∧ Perm n r)
      ⟨none, none, none, List.range n, rfl, same_new hpa, upd_same, ⟨List.length_range, fun x hx => List.mem_range.mp hx, List.nodup_range⟩⟩ (fun i σ G hi hP => ?_) (fun σ G hP => ?_)
    · obtain ⟨y3, y4, y5, r, rfl, sG, hG, hp⟩ := hP
      have hn0 : (0 : Int) < (n : Int) := by omega
      have hl := hp.len
      rw [Int.zero_add]
      walk_at "rd"
      refine r_ixL (sG.seq hS) (at_int (by omega) (by omega)) ?_
      walk_at "rd"
      have g := emod_rng (ns.getD ((i : Nat) : Int).toNat 0) hn0
      obtain ⟨j, ej, hj⟩ := nat_of g.1 g.2
      rw [ej]
      refine r_ixL (SqL.of hG) (at_row (by omega)) ?_
      walk_at "rd"
      refine r_ixL (SqL.of hG) (at_row (by omega)) ?_
      walk_at "rd"
      refine r_setL hG (by omega) (by rw [List.length_map]; omega) ?_
      walk_at "rd"
      refine r_setL upd_same (by omega) (by rw [List.length_set, List.length_map]; omega) ?_
      rw [upd_upd, Int.toNat_natCast, Int.toNat_natCast, ← List.map_set, ← List.map_set]
      exact ⟨_, _, _, _, rfl, same_mut sG hpa, upd_same, swap_perm hp hi (by omega)⟩
    · obtain ⟨y3, y4, y5, r, rfl, sG, hG, hp⟩ := hP
      walk_at "rd"
      refine r_tupL (SqL.of hG) (fun t ht => ?_)
      exact q _ t r (sG.trans (same_new ht)) upd_same hp

end

structure Seen (n : Nat) (M rows : List (List Nat)) (i : Nat) : Prop where
  nd : rows.Nodup
  one : idN n ∈ rows
  gen : ∀ x ∈ rows, Gen n M x
  done : ∀ j, j < i → ∀ x, rows[j]? = some x → ∀ m ∈ M, thenN x m ∈ rows
  le : i ≤ rows.length
theorem Seen.add {n : Nat} {M rows : List (List Nat)} {i : Nat} (h : Seen n M rows i) {r : List Nat} (hr : r ∉ rows) (g : Gen n M r) : Seen n M (rows ++ [r]) i where
  nd := List.nodup_append.mpr ⟨h.nd, by simp, fun x hx y hy e => by
    rw [List.mem_singleton.mp hy] at e
    subst e
    exact hr hx⟩
  one := List.mem_append_left _ h.one
  gen := fun x hx => by
    rcases List.mem_append.mp hx with hx | hx
    · exact h.gen x hx
    · rw [List.mem_singleton.mp hx]; exact g
  done := fun j hj x hx m hm => by
    have hle := h.le
    rw [List.getElem?_append_left (by omega)] at hx
    exact List.mem_append_left _ (h.done j hj x hx m hm)
  le := by
    have hle := h.le
    rw [List.length_append]; omega
theorem Seen.up {n : Nat} {M rows : List (List Nat)} {i : Nat} (h : Seen n M rows i) {x0 : List Nat} (hx : rows[i]? = some x0) (hall : ∀ m ∈ M, thenN x0 m ∈ rows) : Seen n M rows (i + 1) where
  nd := h.nd
  one := h.one
  gen := h.gen
  done := fun j hj x hjx m hm => by
    by_cases e : j = i
    · subst e
      rw [hx] at hjx
      rw [← Option.some.inj hjx]
      exact hall m hm
    · exact h.done j (by omega) x hjx m hm
  le := (List.getElem?_eq_some_iff.mp hx).1
structure Made (n : Nat) (M rs : List (List Nat)) (most : Int) : Prop where
  nd : rs.Nodup
  one : idN n ∈ rs
  gen : ∀ x ∈ rs, Gen n M x
  done : (∀ x ∈ rs, ∀ m ∈ M, thenN x m ∈ rs) ∨ most < (rs.length : Int)
section
variable {P : Program} {w : World} {K : PySem.W.Frag} {mg : Str → Option Value} {base : Heap} {a : Ad}
def spProd (K : PySem.W.Frag) : Sp := fun vs H Q _ => ∃ (n : Nat) (pm : Addr) (ms : List (Addr × List Nat)) (most : Int) (gs L : List (List Nat)) (B : Nat), vs = [iV n, .ref pm, .int most] ∧ SqL K H pm (refsV ms) ∧ TupR H ms ∧
  Bnd n gs L B ∧ (∀ p ∈ ms, p.2 ∈ gs) ∧ 1 ≤ n ∧ n ≤ 64 ∧ B ≤ 999 ∧
  ∀ (H' : Hp) (d : Addr) (rs : List (List Nat)), Same H H' → H' d = some (.dT (dictN rs)) → Made n (ms.map (·.2)) rs most → Q (.ref d) H'
theorem ok_products (T : Txt K mg a) : FnOk P w K mg base CX0 2 a.f_products a.d_products ["places", "makers", "most"] (spProd K) := by
  have G_then := ok_then (P := P) (w := w) (base := base) T
  refine T.F_products.ok sc_products (fun vs H Q E h => ?_) (fun cdv A outer s H vs Q E hr h => ?_)
  · obtain ⟨n, pm, ms, most, gs, L, B, rfl, _⟩ := h
    rfl
  · obtain ⟨n, pm, ms, most, gs, L, B, rfl, hM, hMT, hB, hsub, n1, n64, B999, q⟩ := h
    have zl : (sizeLine : Nat) = 16777216 := by decide
    have hms : ∀ m ∈ ms.map (·.2), m ∈ gs := fun m hm => by
      obtain ⟨p, hp, rfl⟩ := List.mem_map.mp hm
      exact hsub p hp
    have hrow : ∀ m ∈ ms.map (·.2), RowN n m := fun m hm => hB.rows m (hms m hm)
    refine ⟨_, (pss_cons (ps_set (i := 3) sc_products.nd rfl (Or.inl rfl) (pe_lst (pa_cons (pe_tupRg rfl (by rfl) T.z_tuple (prg_1 (by rfl) T.z_range (pv 0))) pa_nil)))
      (pss_cons (ps_set (i := 4) sc_products.nd rfl (Or.inl rfl) (pe_dispT (hu_of hr) (pe_ix (ix_listK (K := K) rfl) (pv 3) pe_int (fun _ _ => rfl)) pe_bl))
      (pss_cons (ps_set (i := 5) sc_products.nd rfl (Or.inl rfl) pe_int)
      (pss_cons (ps_while PassesOwn.never (PW.pt (pw_and (pt_cmpR op_lt (pv 5) (pe_callB (call_lenQK (K := K) rfl) (by rfl) T.z_len (by decide +kernel) (pa_cons (pv 3) pa_nil)) (nomark _)) (pw_and1 (pt_cmpR op_le (pe_callB (call_lenQK (K := K) rfl) (by rfl) T.z_len (by decide +kernel) (pa_cons (pv 3) pa_nil)) (pv 2) (nomark _))))) (pss_cons (ps_for PassesOwn.never rfl (pi_listK (K := K) rfl (pv 1)) (pg_name (i := 6) sc_products.nd rfl (Or.inl rfl)) (pss_cons (ps_set (i := 7) sc_products.nd rfl (Or.inl rfl) (pe_call (G_then) (hr.mono (by first | decide | omega)) (by rfl) T.g_then T.F_then.kp T.b_then .nil pass0 (pa_cons (pe_ix (ix_listK (K := K) rfl) (pv 3) (pv 5) (fun _ _ => rfl)) (pa_cons (pv 6) pa_nil))))
      (pss_one (ps_if (pt_cmp (pc_dnotin (hu_of hr) (pv 7) (pv 4))) (pss_cons (ps_dput (hu_of hr) (pv 4) (pv 7) pe_bl (by rfl))
      (pss_one (ps_expr (bmK (K := K) rfl (pe_bm PySem.F.plainAttrs_list PySem.F.slot_list_append PySem.F.type_list_append mt_append (pv 3) (pa_cons (pv 7) pa_nil)))))) pss_nil))))
      (pss_one (ps_aug (i := 5) sc_products.nd rfl (Or.inl rfl) pe_int ip_add))))
      (pss_one (ps_ret (pv 4))))))), ?_⟩
    walk_at "rd"
    show tTupRg (tRg1 _) _ _ _
    refine r_tupRgN (n := n) (by omega) (fun p0 hp0 => ?_) (fun R hR => ?_)
    rotate_left
    · walk_at "rd"
      exact hR
    walk_at "rd"
    refine ⟨ln1, fun qd hqd => ?_⟩
    walk_at "rd"
    refine r_dispT (fun fd hfd => ?_)
    walk_at "rd"
    have t1 := same_new (o := .tup ((List.range n).map iV)) hp0
    have t2 := same_new (o := .lst [V.ref p0]) hqd
    have t3 := same_new (o := .dT []) hfd
    refine r_ixL (SqL.of (t3 _ _ upd_same)) (at_refs (ps := [(p0, idN n)]) (i := 0) rfl) ?_
    walk_at "rd"
    refine ⟨p0, idN n, rfl, t3 _ _ (t2 _ _ upd_same), upd_same, rfl, ?_⟩
    rw [upd_upd]
    have t4 := same_new (o := .dT (dictN [idN n])) hfd
    have hT0 := t4 _ _ (t2 _ _ upd_same)
    have hQ0 := t4 _ _ upd_same
    have hF0 : (upd (upd (upd H p0 (.tup ((List.range n).map iV))) qd (.lst [V.ref p0])) fd (.dT (dictN [idN n]))) fd = _ := upd_same
    have s0 := t1.trans (t2.trans t4)
    have hqH : H qd = none := t1.free hqd
    have hfH : H fd = none := (t1.trans t2).free hfd
    have hne : fd ≠ qd := fun e => by
      subst e
      rw [upd_same] at hfd
      exact nomatch hfd
    clear t1 t2 t3 t4
    generalize (upd (upd (upd H p0 (.tup ((List.range n).map iV))) qd (.lst [V.ref p0])) fd (.dT (dictN [idN n]))) = H1 at *
    walk_at "rd"
    refine ⟨fun m σ G => ∃ ps i y6 y7, σ = [some (iV n), some (.ref pm), some (.int most), some (.ref qd), some (.ref fd), some (iV i), y6, y7] ∧ m = B + 1 - i ∧ Same H G ∧ G qd = some (.lst (refsV ps)) ∧ G fd = some (.dT (dictN (ps.map (·.2)))) ∧ TupR G ps ∧ Seen n (ms.map (·.2)) (ps.map (·.2)) i,
      ⟨_, [(p0, idN n)], 0, none, none, rfl, rfl, s0, hQ0, hF0, (fun p hp => by rw [List.mem_singleton.mp hp]; exact hT0), ⟨by simp, List.mem_cons_self, (fun x hx => by rw [List.mem_singleton.mp hx]; exact .one), (fun j hj => absurd hj (Nat.not_lt_zero _)), Nat.zero_le _⟩⟩, ?_⟩
    rintro m σ G ⟨ps, i, y6, y7, rfl, rfl, sG, hQ, hF, hT, seen⟩
    have hlen := hB.le hms seen.nd seen.gen
    rw [List.length_map] at hlen
    have hle := seen.le
    rw [List.length_map] at hle
    have lq : (refsV ps).length = ps.length := List.length_map _
    have fin : ((∀ x ∈ ps.map (·.2), ∀ m ∈ ms.map (·.2), thenN x m ∈ ps.map (·.2)) ∨ most < ((ps.map (·.2)).length : Int)) → Q (.ref fd) G := fun hd => q G fd _ sG hF ⟨seen.nd, seen.one, seen.gen, hd⟩
    walk_at "rd"
    refine r_lenL (SqL.of hQ) ?_
    rw [lq]
    refine ⟨(i : Int), (ps.length : Int), rfl, rfl, ?_⟩
    walk_at "rd"
    refine r_iteD (fun e1 => ?_) (fun e1 => ?_)
    rotate_left
    · walk_at "rd"
      refine fin (.inl fun x hx m hm => ?_)
      obtain ⟨j, hj⟩ := List.mem_iff_getElem?.mp hx
      have hjl := (List.getElem?_eq_some_iff.mp hj).1
      rw [List.length_map] at hjl
      exact seen.done j (by omega) x hj m hm
    walk_at "rd"
    refine r_lenL (SqL.of hQ) ?_
    rw [lq]
    walk_at "rd"
    refine r_iteD (fun e2 => ?_) (fun e2 => ?_)
    rotate_left
    · walk_at "rd"
      exact fin (.inr (by rw [List.length_map]; omega))
    clear fin
    obtain ⟨⟨b, x0⟩, hpi⟩ : ∃ p, ps[i]? = some p := ⟨_, List.getElem?_eq_getElem (by omega)⟩
    refine ⟨fun σ' H' => ∃ ps2 y6 y7, σ' = [some (iV n), some (.ref pm), some (.int most), some (.ref qd), some (.ref fd), some (iV (i + 1)), y6, y7] ∧ Same H H' ∧ H' qd = some (.lst (refsV ps2)) ∧ H' fd = some (.dT (dictN (ps2.map (·.2)))) ∧ TupR H' ps2 ∧ Seen n (ms.map (·.2)) (ps2.map (·.2)) (i + 1), fun σ' H' hN => ?_, ?_⟩
    · obtain ⟨ps2, z6, z7, rfl, a1, a2, a3, a4, a5⟩ := hN
      exact ⟨B + 1 - (i + 1), by omega, ps2, i + 1, z6, z7, rfl, rfl, a1, a2, a3, a4, a5⟩
    · with_reducible refine r_cutJ (fun σ' H' => ∃ ps2 y6 y7, σ' = [some (iV n), some (.ref pm), some (.int most), some (.ref qd), some (.ref fd), some (iV i), y6, y7] ∧ Same H H' ∧ H' qd = some (.lst (refsV ps2)) ∧ H' fd = some (.dT (dictN (ps2.map (·.2)))) ∧ TupR H' ps2 ∧ Seen n (ms.map (·.2)) (ps2.map (·.2)) (i + 1)) (fun σ' H' hJ => ?_) (fun key => ?_)
      rotate_left
      · walk_at "rd"
        refine ⟨⟨_, sG.seq hM⟩, ?_⟩
        refine for_list (xs := refsV ms) (fun j σ' H' => ∃ ps2 y6 y7, σ' = [some (iV n), some (.ref pm), some (.int most), some (.ref qd), some (.ref fd), some (iV i), y6, y7] ∧ Same H H' ∧ H' qd = some (.lst (refsV ps2)) ∧ H' fd = some (.dT (dictN (ps2.map (·.2)))) ∧ TupR H' ps2 ∧ Seen n (ms.map (·.2)) (ps2.map (·.2)) i ∧ ps2[i]? = some (b, x0) ∧ ∀ k, k < j → ∀ m, (ms.map (·.2))[k]? = some m → thenN x0 m ∈ ps2.map (·.2))
          ⟨ps, y6, y7, rfl, sG, hQ, hF, hT, seen, hpi, fun k hk => absurd hk (Nat.not_lt_zero _)⟩ (fun j σ' H' _ hP => ?_) (fun j x σ' H' hx hP => ?_) (fun σ' H' hP => ?_)
        · obtain ⟨ps2, z6, z7, rfl, a1, _⟩ := hP
          exact a1.seq hM
        · clear hQ hF hT seen hlen hle sG
          obtain ⟨ps2, z6, z7, rfl, sG, hQ, hF, hT, seen, hp2, hk⟩ := hP
          obtain ⟨q1, hq1, rfl⟩ : ∃ q1, ms[j]? = some q1 ∧ V.ref q1.1 = x := by
            unfold refsV at hx
            rw [List.getElem?_map] at hx
            obtain ⟨y, h1, h2⟩ := Option.map_eq_some_iff.mp hx
            exact ⟨y, h1, h2⟩
          have hq1m := List.mem_of_getElem? hq1
          have hxm : x0 ∈ ps2.map (·.2) := List.mem_map.mpr ⟨(b, x0), List.mem_of_getElem? hp2, rfl⟩
          have hx0 := (seen.gen x0 hxm).row hrow
          have hq0 := hrow q1.2 (List.mem_map_of_mem hq1m)
          have hlen := hB.le hms seen.nd seen.gen
          rw [List.length_map] at hlen
          walk_at "rd"
          refine r_ixL (SqL.of hQ) (at_refs hp2) ?_
          walk_at "rd"
          refine ⟨.ref b, .ref q1.1, x0, q1.2, rfl, row_of (SqT.of (hT _ (List.mem_of_getElem? hp2))), row_of (SqT.of ((hMT.k sG) q1 hq1m)), fun y hy => by rw [hq0.1]; exact hx0.2 y hy, by rw [hx0.1]; omega, fun G3 t s3 ht => ?_⟩
          have hQ3 := s3 _ _ hQ
          have hF3 := s3 _ _ hF
          have hT3 := hT.k s3
          have sG3 := sG.trans s3
          walk_at "rd"
          refine r_dni ?_
          walk_at "rd"
          obtain ⟨o3, ho3, eo3⟩ := dni_at hF3 ht
          refine ⟨_, o3, rfl, ho3, ?_⟩
          rw [eo3]
          walk_at "rd"
          refine r_iteD (fun e3 => ?_) (fun e3 => ?_)
          · walk_at "rd"
            refine r_dput ?_
            walk_at "rd"
            refine r_dputE hF3 ht e3 (by rw [List.length_map]; omega) ?_
            have hF4 : (upd G3 fd (.dT (dictN (ps2.map (·.2) ++ [thenN x0 q1.2])))) fd = _ := upd_same
            have hQ4 : (upd G3 fd (.dT (dictN (ps2.map (·.2) ++ [thenN x0 q1.2])))) qd = _ := (upd_ne hne.symm).trans hQ3
            have s4 := same_mut (o := .dT (dictN (ps2.map (·.2) ++ [thenN x0 q1.2]))) sG3 hfH
            have tup4 : ∀ (c : Addr) (ys : List V), G3 c = some (.tup ys) → (upd G3 fd (.dT (dictN (ps2.map (·.2) ++ [thenN x0 q1.2])))) c = some (.tup ys) := fun c ys hc => by
              rw [upd_ne (fun e => by rw [e, hF3] at hc; exact nomatch hc)]
              exact hc
            have ht4 := tup4 _ _ ht
            have hT4 : TupR (upd G3 fd (.dT (dictN (ps2.map (·.2) ++ [thenN x0 q1.2])))) ps2 := fun p hp => tup4 _ _ (hT3 p hp)
            clear tup4
            generalize upd G3 fd (.dT (dictN (ps2.map (·.2) ++ [thenN x0 q1.2]))) = G4 at *
            walk_at "rd"
            refine ⟨ty_l (SqL.of hQ4), ?_⟩
            walk_at "rd"
            refine r_append hQ4 (by show (ps2.map _).length < _; rw [List.length_map]; omega) ?_
            have eR : (ps2 ++ [(t, thenN x0 q1.2)]).map (·.2) = ps2.map (·.2) ++ [thenN x0 q1.2] := by rw [List.map_append]; rfl
            have tup5 : ∀ (c : Addr) (ys : List V), G4 c = some (.tup ys) → (upd G4 qd (.lst (refsV ps2 ++ [V.ref t]))) c = some (.tup ys) := fun c ys hc => by
              rw [upd_ne (fun e => by rw [e, hQ4] at hc; exact nomatch hc)]
              exact hc
            refine ⟨ps2 ++ [(t, thenN x0 q1.2)], _, _, rfl, same_mut s4 hqH, ?_, ?_, ?_, ?_, ?_, ?_⟩
            · rw [upd_same]
              unfold refsV
              rw [List.map_append]
              rfl
            · rw [upd_ne hne, eR]
              exact hF4
            · exact TupR.snoc (fun p hp => tup5 _ _ (hT4 p hp)) (tup5 _ _ ht4)
            · rw [eR]
              exact seen.add e3 (.step (seen.gen x0 hxm) (List.mem_map_of_mem hq1m))
            · rw [List.getElem?_append_left (List.getElem?_eq_some_iff.mp hp2).1]
              exact hp2
            · intro k hkj m hm
              rw [eR]
              by_cases e : k = j
              · subst e
                rw [List.getElem?_map, hq1] at hm
                rw [← Option.some.inj hm]
                exact List.mem_append_right _ List.mem_cons_self
              · exact List.mem_append_left _ (hk k (by omega) m hm)
          · walk_at "rd"
            refine ⟨ps2, _, _, rfl, sG3, hQ3, hF3, hT3, seen, hp2, fun k hkj m hm => ?_⟩
            by_cases e : k = j
            · subst e
              rw [List.getElem?_map, hq1] at hm
              rw [← Option.some.inj hm]
              exact Classical.not_not.mp e3
            · exact hk k (by omega) m hm
        · obtain ⟨ps2, z6, z7, rfl, a1, a2, a3, a4, a5, a6, a7⟩ := hP
          refine key _ _ ⟨ps2, z6, z7, rfl, a1, a2, a3, a4, a5.up (by rw [List.getElem?_map, a6]; rfl) fun m hm => ?_⟩
          obtain ⟨k, hk⟩ := List.mem_iff_getElem?.mp hm
          have hkl := (List.getElem?_eq_some_iff.mp hk).1
          exact a7 k (by show k < (ms.map _).length; rw [List.length_map] at hkl ⊢; exact hkl) m hk
      · obtain ⟨ps2, z6, z7, rfl, a1, a2, a3, a4, a5⟩ := hJ
        walk_at "rd"
        exact ⟨_, rfl, _, _, rfl, rfl, ps2, z6, z7, rfl, a1, a2, a3, a4, a5⟩
end

section
variable {P : Program} {w : World} {K : PySem.W.Frag} {mg : Str → Option Value} {base : Heap} {a : Ad}
theorem Made.all {n : Nat} {M rs : List (List Nat)} {most : Int} (h : Made n M rs most) (hl : (rs.length : Int) ≤ most) {x : List Nat} (g : Gen n M x) : x ∈ rs := by
  rcases h.done with d | d
  · exact g.sub h.one d
  · omega
def spGrown (K : PySem.W.Frag) : Sp := fun vs H Q _ => ∃ (n : Nat) (pp : Addr) (ps : List (Addr × List Nat)) (most : Int) (L : List (List Nat)) (B : Nat), vs = [iV n, .ref pp, .int most] ∧ SqL K H pp (refsV ps) ∧ TupR H ps ∧
  Bnd n (ps.map (·.2)) L B ∧ 1 ≤ n ∧ n ≤ 64 ∧ B ≤ 999 ∧ ps.length ≤ 1000 ∧
  ∀ (H' : Hp) (d : Addr) (rs : List (List Nat)), Same H H' → H' d = some (.dT (dictN rs)) → rs.Nodup → (∀ x ∈ rs, Gen n (ps.map (·.2)) x) → (Group n (ps.map (·.2)) rs ∨ most < (rs.length : Int)) → Q (.ref d) H'
theorem ok_grown (T : Txt K mg a) : FnOk P w K mg base CX0 3 a.f_grown a.d_grown ["places", "permutations", "most"] (spGrown K) := by
  have G_products := ok_products (P := P) (w := w) (base := base) T
  refine T.F_grown.ok sc_grown (fun vs H Q E h => ?_) (fun cdv A outer s H vs Q E hr h => ?_)
  · obtain ⟨n, pp, ps, most, L, B, rfl, _⟩ := h
    rfl
  · obtain ⟨n, pp, ps, most, L, B, rfl, hS, hT, hB, n1, n64, B999, p1000, q⟩ := h
    have zl : (sizeLine : Nat) = 16777216 := by decide
    refine ⟨_, (pss_cons (ps_set (i := 3) sc_grown.nd rfl (Or.inl rfl) (pe_lst pa_nil))
      (pss_cons (ps_set (i := 4) sc_grown.nd rfl (Or.inl rfl) (pe_call (G_products) (hr.mono (by first | decide | omega)) (by rfl) T.g_products T.F_products.kp T.b_products .nil pass0 (pa_cons (pv 0) (pa_cons (pv 3) (pa_cons (pv 2) pa_nil)))))
      (pss_cons (ps_for PassesOwn.never rfl (pi_listK (K := K) rfl (pv 1)) (pg_name (i := 5) sc_grown.nd rfl (Or.inl rfl)) (pss_one (ps_if (PW.pt (pw_and (pt_cmp (pc_dnotin (hu_of hr) (pv 5) (pv 4))) (pw_and1 (pt_cmpR op_le (pe_callB call_len_dT (by rfl) T.z_len (by decide +kernel) (pa_cons (pv 4) pa_nil)) (pv 2) (nomark _))))) (pss_cons (ps_expr (bmK (K := K) rfl (pe_bm PySem.F.plainAttrs_list PySem.F.slot_list_append PySem.F.type_list_append mt_append (pv 3) (pa_cons (pv 5) pa_nil))))
      (pss_one (ps_set (i := 4) sc_grown.nd rfl (Or.inl rfl) (pe_call (G_products) (hr.mono (by first | decide | omega)) (by rfl) T.g_products T.F_products.kp T.b_products .nil pass0 (pa_cons (pv 0) (pa_cons (pv 3) (pa_cons (pv 2) pa_nil))))))) pss_nil)))
      (pss_one (ps_ret (pv 4)))))), ?_⟩
    walk_at "rd"
    refine ⟨Nat.zero_le _, fun pm hpm => ?_⟩
    walk_at "rd"
    have s1 := same_new (o := .lst []) hpm
    refine ⟨n, pm, [], most, ps.map (·.2), L, B, rfl, SqL.of upd_same, (fun p hp => nomatch hp), hB, (fun p hp => nomatch hp), n1, n64, B999, fun G1 gd rows s2 hG md => ?_⟩
    have hm1 := s2 _ _ (upd_same (H := H) (a := pm) (o := .lst []))
    walk_at "rd"
    refine ⟨⟨_, (s1.trans s2).seq hS⟩, ?_⟩
    refine for_list (xs := refsV ps) (fun j σ G => ∃ ms gd rows y5, σ = [some (iV n), some (.ref pp), some (.int most), some (.ref pm), some (.ref gd), y5] ∧ Same H G ∧ G pm = some (.lst (refsV ms)) ∧ TupR G ms ∧ (∀ p ∈ ms, p.2 ∈ ps.map (·.2)) ∧ ms.length ≤ j ∧ G gd = some (.dT (dictN rows)) ∧ Made n (ms.map (·.2)) rows most ∧ (most < (rows.length : Int) ∨ ∀ k, k < j → ∀ x, (ps.map (·.2))[k]? = some x → x ∈ rows))
      ⟨[], gd, rows, none, rfl, s1.trans s2, hm1, (fun p hp => nomatch hp), (fun p hp => nomatch hp), Nat.le_refl _, hG, md, .inr fun k hk => absurd hk (Nat.not_lt_zero _)⟩ (fun j σ G _ hP => ?_) (fun j x σ G hx hP => ?_) (fun σ G hP => ?_)
    · obtain ⟨ms, gd, rows, y5, rfl, sG, _⟩ := hP
      exact sG.seq hS
    · clear hG md hm1 s2 s1
      clear gd rows G1
      obtain ⟨ms, gd, rows, y5, rfl, sG, hM, hMT, hsub, hml, hG, md, hall⟩ := hP
      obtain ⟨q1, hq1, rfl⟩ : ∃ q1, ps[j]? = some q1 ∧ V.ref q1.1 = x := by
        unfold refsV at hx
        rw [List.getElem?_map] at hx
        obtain ⟨y, h1, h2⟩ := Option.map_eq_some_iff.mp hx
        exact ⟨y, h1, h2⟩
      have hq1m := List.mem_of_getElem? hq1
      have hjl := (List.getElem?_eq_some_iff.mp hq1).1
      have hq0 : q1.2 ∈ ps.map (·.2) := List.mem_map_of_mem hq1m
      have stay : (q1.2 ∈ rows ∨ most < (rows.length : Int)) → (most < (rows.length : Int) ∨ ∀ k, k < j + 1 → ∀ x, (ps.map (·.2))[k]? = some x → x ∈ rows) := fun h => by
        rcases h with h | h
        · rcases hall with h2 | h2
          · exact .inl h2
          · refine .inr fun k hk x hkx => ?_
            by_cases e : k = j
            · subst e
              rw [List.getElem?_map, hq1] at hkx
              rw [← Option.some.inj hkx]
              exact h
            · exact h2 k (by omega) x hkx
        · exact .inl h
      walk_at "rd"
      refine r_dni ?_
      walk_at "rd"
      obtain ⟨o3, ho3, eo3⟩ := dni_at hG (sG _ _ (hT q1 hq1m))
      refine ⟨_, o3, rfl, ho3, ?_⟩
      rw [eo3]
      walk_at "rd"
      refine r_iteD (fun e3 => ?_) (fun e3 => ?_)
      · walk_at "rd"
        refine r_lenDT hG ?_
        walk_at "rd"
        refine r_iteD (fun e4 => ?_) (fun e4 => ?_)
        · walk_at "rd"
          refine ⟨ty_l (SqL.of hM), ?_⟩
          walk_at "rd"
          refine r_append hM (by show (ms.map _).length < _; rw [List.length_map]; omega) ?_
          have eV : refsV ms ++ [V.ref q1.1] = refsV (ms ++ [q1]) := by
            unfold refsV
            rw [List.map_append]
            rfl
          rw [eV]
          have sG1 := same_mut (o := .lst (refsV (ms ++ [q1]))) sG hpm
          have tup : ∀ (c : Addr) (ys : List V), G c = some (.tup ys) → (upd G pm (.lst (refsV (ms ++ [q1])))) c = some (.tup ys) := fun c ys hc => by
            rw [upd_ne (fun e => by rw [e, hM] at hc; exact nomatch hc)]
            exact hc
          have hT1 : TupR (upd G pm (.lst (refsV (ms ++ [q1])))) (ms ++ [q1]) := fun p hp => by
            rcases List.mem_append.mp hp with hp | hp
            · exact tup _ _ (hMT p hp)
            · rw [List.mem_singleton.mp hp]
              exact tup _ _ (sG _ _ (hT q1 hq1m))
          have hsub1 : ∀ p ∈ ms ++ [q1], p.2 ∈ ps.map (·.2) := fun p hp => by
            rcases List.mem_append.mp hp with hp | hp
            · exact hsub p hp
            · rw [List.mem_singleton.mp hp]
              exact hq0
          have hM1 : (upd G pm (.lst (refsV (ms ++ [q1])))) pm = _ := upd_same
          clear tup
          generalize upd G pm (.lst (refsV (ms ++ [q1]))) = G1 at *
          walk_at "rd"
          refine ⟨n, pm, ms ++ [q1], most, ps.map (·.2), L, B, rfl, SqL.of hM1, hT1, hB, hsub1, n1, n64, B999, fun G2 gd2 rows2 s2 hG2 md2 => ?_⟩
          refine ⟨ms ++ [q1], gd2, rows2, _, rfl, sG1.trans s2, s2 _ _ hM1, hT1.k s2, hsub1, by rw [List.length_append]; show ms.length + 1 ≤ _; omega, hG2, md2, ?_⟩
          by_cases hl : (rows2.length : Int) ≤ most
          · refine .inr fun k hk y hky => ?_
            have inc : ∀ m ∈ ms.map (·.2), m ∈ (ms ++ [q1]).map (·.2) := fun m hm => by
              rw [List.map_append]
              exact List.mem_append_left _ hm
            by_cases e : k = j
            · subst e
              rw [List.getElem?_map, hq1] at hky
              rw [← Option.some.inj hky]
              exact md2.all hl (Gen.of (hB.rows _ hq0) (List.mem_map_of_mem (List.mem_append_right _ List.mem_cons_self)))
            · rcases hall with h | h
              · omega
              · exact md2.all hl ((md.gen y (h k (by omega) y hky)).mono inc)
          · exact .inl (by omega)
        · walk_at "rd"
          exact ⟨ms, gd, rows, _, rfl, sG, hM, hMT, hsub, by omega, hG, md, stay (.inr (by omega))⟩
      · walk_at "rd"
        exact ⟨ms, gd, rows, _, rfl, sG, hM, hMT, hsub, by omega, hG, md, stay (.inl (Classical.not_not.mp e3))⟩
    · obtain ⟨ms, gd, rows, y5, rfl, sG, hM, hMT, hsub, hml, hG, md, hall⟩ := hP
      walk_at "rd"
      have hms : ∀ m ∈ ms.map (·.2), m ∈ ps.map (·.2) := fun m hm => by
        obtain ⟨p, hp, rfl⟩ := List.mem_map.mp hm
        exact hsub p hp
      refine q G gd rows sG hG md.nd (fun x hx => (md.gen x hx).mono hms) ?_
      rcases hall with h | h
      · exact .inr h
      · rcases md.done with d | d
        · refine .inl (group_of hB.rows hms md.nd md.one d md.gen fun m hm => ?_)
          obtain ⟨k, hk⟩ := List.mem_iff_getElem?.mp hm
          have hkl := (List.getElem?_eq_some_iff.mp hk).1
          exact h k (by show k < (ps.map _).length; rw [List.length_map] at hkl ⊢; exact hkl) m hk
        · exact .inr d
end

section
variable {P : Program} {w : World} {K : PySem.W.Frag} {mg : Str → Option Value} {base : Heap} {a : Ad}
theorem group_by {n : Nat} {gs a b : List (List Nat)} (h : Group n gs a) (p : b.Perm a) : Group n gs b := ⟨p.nodup_iff.mpr h.nd, fun x => p.mem_iff.trans (h.all x)⟩
def spGroup (K : PySem.W.Frag) : Sp := fun vs H Q _ => ∃ (n : Nat) (pp : Addr) (ps : List (Addr × List Nat)) (L : List (List Nat)) (B : Nat), vs = [iV n, .ref pp] ∧ SqL K H pp (refsV ps) ∧ TupR H ps ∧
  Bnd n (ps.map (·.2)) L B ∧ 1 ≤ n ∧ n ≤ 64 ∧ B ≤ 999 ∧ B ≤ Builtin.Math.factorialNat n ∧ ps.length ≤ 1000 ∧
  ∀ (H' : Hp) (p : Addr) (zs : List (Addr × List Nat)), Same H H' → H p = none → H' p = some (.lst (refsV zs)) → TupR H' zs → sortedR zs → Group n (ps.map (·.2)) (zs.map (·.2)) → Q (.ref p) H'
theorem ok_generated (T : Txt K mg a) : FnOk P w K mg base CX0 4 a.f_generated a.d_generated ["places", "permutations"] (spGroup K) := by
  have G_grown := ok_grown (P := P) (w := w) (base := base) T
  refine T.F_generated.ok sc_generated (fun vs H Q E h => ?_) (fun cdv A outer s H vs Q E hr h => ?_)
  · obtain ⟨n, pp, ps, L, B, rfl, _⟩ := h
    rfl
  · obtain ⟨n, pp, ps, L, B, rfl, hS, hT, hB, n1, n64, B999, Bf, p1000, q⟩ := h
    refine ⟨_, (pss_one (ps_ret (pe_callB (cr_sortD rfl) (by rfl) T.z_sorted (by decide +kernel) (pa_cons (pe_call (G_grown) (hr.mono (by first | decide | omega)) (by rfl) T.g_grown T.F_grown.kp T.b_grown .nil pass0 (pa_cons (pv 0) (pa_cons (pv 1) (pa_cons (pe_callBfun call_factorial (by rfl) T.m_factorial (pa_cons (pv 0) pa_nil)) pa_nil)))) pa_nil)))), ?_⟩
    walk_at "rd"
    refine ⟨n, rfl, n64, ?_⟩
    walk_at "rd"
    refine ⟨n, pp, ps, _, L, B, rfl, hS, hT, hB, n1, n64, B999, p1000, fun G d rs sG hG nd gen done => ?_⟩
    have hle := hB.le (fun m hm => hm) nd gen
    have hg : Group n (ps.map (·.2)) rs := by
      rcases done with h | h
      · exact h
      · exact absurd h (by omega)
    walk_at "rd"
    refine r_sortD hG (fun r hr e => ?_) (fun zs p pz sz tz hp => ?_)
    · have h1 := ((gen r hr).row hB.rows).1
      rw [e] at h1
      have h2 : (0 : Nat) = n := h1
      omega
    · exact q _ p zs (sG.trans (same_new hp)) (sG.free hp) upd_same (tz.k (same_new hp)) sz (group_by hg pz)
end

structure Wait (n : Nat) (M rows ws : List (List Nat)) (x0 : Option (List Nat)) : Prop where
  nd : rows.Nodup
  one : idN n ∈ rows
  gen : ∀ x ∈ rows, Gen n M x
  sub : ∀ x ∈ ws, x ∈ rows
  done : ∀ x ∈ rows, x ∈ ws ∨ some x = x0 ∨ ∀ m ∈ M, thenN x m ∈ rows
theorem Wait.add {n : Nat} {M rows ws : List (List Nat)} {x0 : Option (List Nat)} (h : Wait n M rows ws x0) {r : List Nat} (hr : r ∉ rows) (g : Gen n M r) : Wait n M (rows ++ [r]) (ws ++ [r]) x0 where
  nd := List.nodup_append.mpr ⟨h.nd, by simp, fun x hx y hy e => by
    rw [List.mem_singleton.mp hy] at e
    subst e
    exact hr hx⟩
  one := List.mem_append_left _ h.one
  gen := fun x hx => by
    rcases List.mem_append.mp hx with hx | hx
    · exact h.gen x hx
    · rw [List.mem_singleton.mp hx]; exact g
  sub := fun x hx => by
    rcases List.mem_append.mp hx with hx | hx
    · exact List.mem_append_left _ (h.sub x hx)
    · exact List.mem_append_right _ hx
  done := fun x hx => by
    rcases List.mem_append.mp hx with hx | hx
    · rcases h.done x hx with h | h | h
      · exact .inl (List.mem_append_left _ h)
      · exact .inr (.inl h)
      · exact .inr (.inr fun m hm => List.mem_append_left _ (h m hm))
    · exact .inl (List.mem_append_right _ hx)
section
variable {P : Program} {w : World} {K : PySem.W.Frag} {mg : Str → Option Value} {base : Heap} {a : Ad}
def spClosed (K : PySem.W.Frag) : Sp := fun vs H Q _ => ∃ (n : Nat) (pp : Addr) (ps : List (Addr × List Nat)) (L : List (List Nat)) (B : Nat), vs = [iV n, .ref pp] ∧ SqL K H pp (refsV ps) ∧ (∀ p ∈ ps, SqT K H p.1 (p.2.map iV)) ∧
  Bnd n (ps.map (·.2)) L B ∧ 1 ≤ n ∧ n ≤ 64 ∧ B ≤ 999 ∧
  ∀ (H' : Hp) (p : Addr) (zs : List (Addr × List Nat)), Same H H' → H p = none → H' p = some (.lst (refsV zs)) → TupR H' zs → sortedR zs → Group n (ps.map (·.2)) (zs.map (·.2)) → Q (.ref p) H'
theorem ok_l_closed (T : Txt K mg a) : FnOk P w K mg base CX0 2 a.f_l_closed a.d_l_closed ["places", "permutations"] (spClosed K) := by
  have G_l_then := ok_l_then (P := P) (w := w) (base := base) T
  refine T.F_l_closed.ok sc_l_closed (fun vs H Q E h => ?_) (fun cdv A outer s H vs Q E hr h => ?_)
  · obtain ⟨n, pp, ps, L, B, rfl, _⟩ := h
    rfl
  · obtain ⟨n, pp, ps, L, B, rfl, hS, hPT, hB, n1, n64, B999, q⟩ := h
    have zl : (sizeLine : Nat) = 16777216 := by decide
    have hsub0 : ∀ m ∈ ps.map (·.2), m ∈ ps.map (·.2) := fun m hm => hm
    refine ⟨_, (pss_cons (ps_set (i := 2) sc_l_closed.nd rfl (Or.inl rfl) (pe_dispT (hu_of hr) (pe_tupRg rfl (by rfl) T.z_tuple (prg_1 (by rfl) T.z_range (pv 0))) pe_bl))
      (pss_cons (ps_set (i := 3) sc_l_closed.nd rfl (Or.inl rfl) (pe_lst (pa_cons (pe_tupRg rfl (by rfl) T.z_tuple (prg_1 (by rfl) T.z_range (pv 0))) pa_nil)))
      (pss_cons (ps_for PassesOwn.never rfl (pi_range1 (by rfl) T.z_range (pa_cons pe_int pa_nil)) (pg_name (i := 4) sc_l_closed.nd rfl (Or.inl rfl)) (pss_cons (ps_if (pt_cmpR (op_eqDK (K := K) rfl hr.units) (pv 3) (pe_lst pa_nil) (nomark _)) (pss_one ps_break) pss_nil)
      (pss_cons (ps_set (i := 5) sc_l_closed.nd rfl (Or.inl rfl) (bm0K (K := K) rfl (pe_bm0 PySem.F.plainAttrs_list PySem.F.slot_list_pop PySem.F.type_list_pop mt_pop (pv 3))))
      (pss_one (ps_for PassesOwn.never rfl (pi_listK (K := K) rfl (pv 1)) (pg_name (i := 6) sc_l_closed.nd rfl (Or.inl rfl)) (pss_cons (ps_set (i := 7) sc_l_closed.nd rfl (Or.inl rfl) (pe_call (G_l_then) (hr.mono (by first | decide | omega)) (by rfl) T.g_l_then T.F_l_then.kp T.b_l_then .nil pass0 (pa_cons (pv 5) (pa_cons (pv 6) pa_nil))))
      (pss_one (ps_if (pt_cmp (pc_dnotin (hu_of hr) (pv 7) (pv 2))) (pss_cons (ps_dput (hu_of hr) (pv 2) (pv 7) pe_bl (by rfl))
      (pss_one (ps_expr (bmK (K := K) rfl (pe_bm PySem.F.plainAttrs_list PySem.F.slot_list_append PySem.F.type_list_append mt_append (pv 3) (pa_cons (pv 7) pa_nil)))))) pss_nil))))))))
      (pss_one (ps_ret (pe_callB (cr_sortT (K := K) rfl) (by rfl) T.z_sorted (by decide +kernel) (pa_cons (pe_callTy (call_listN rfl) (by rfl) T.z_list (by decide +kernel) (pa_cons (pv 2) pa_nil)) pa_nil))))))), ?_⟩
    walk_at "rd"
    refine r_dispT (fun fd hfd => ?_)
    show tTupRg (tRg1 _) _ _ _
    refine r_tupRgN (n := n) (by omega) (fun p0 hp0 => ?_) (fun R hR => ?_)
    rotate_left
    · walk_at "rd"
      exact hR
    walk_at "rd"
    have hfp : (upd (upd H fd (.dT [])) p0 (.tup ((List.range n).map iV))) fd = some (.dT []) := (same_new hp0) _ _ upd_same
    refine ⟨p0, idN n, rfl, upd_same, hfp, rfl, ?_⟩
    have sF : Same H (upd (upd (upd H fd (.dT [])) p0 (.tup ((List.range n).map iV))) fd (.dT (dictN [idN n]))) := same_mut ((same_new hfd).trans (same_new hp0)) hfd
    have hF0 : (upd (upd (upd H fd (.dT [])) p0 (.tup ((List.range n).map iV))) fd (.dT (dictN [idN n]))) fd = _ := upd_same
    clear hfp hp0
    generalize upd (upd (upd H fd (.dT [])) p0 (.tup ((List.range n).map iV))) fd (.dT (dictN [idN n])) = H1 at *
    walk_at "rd"
    show tTupRg (tRg1 _) _ _ _
    refine r_tupRgN (n := n) (by omega) (fun p1 hp1 => ?_) (fun R hR => ?_)
    rotate_left
    · walk_at "rd"
      exact hR
    walk_at "rd"
    refine ⟨ln1, fun wd hwd => ?_⟩
    walk_at "rd"
    have t2 := same_new (o := .tup ((List.range n).map iV)) hp1
    have t3 := same_new (o := .lst [V.ref p1]) hwd
    have s0 := sF.trans (t2.trans t3)
    have hwH : H wd = none := (sF.trans t2).free hwd
    have hT0 := t3 _ _ (upd_same (H := H1) (a := p1) (o := .tup ((List.range n).map iV)))
    have hW0 : (upd (upd H1 p1 (.tup ((List.range n).map iV))) wd (.lst [V.ref p1])) wd = _ := upd_same
    have hF1 := t3 _ _ (t2 _ _ hF0)
    have hne : fd ≠ wd := fun e => by
      subst e
      rw [hF1] at hW0
      exact nomatch hW0
    clear t2 t3 sF hF0 hwd hp1
    generalize upd (upd H1 p1 (.tup ((List.range n).map iV))) wd (.lst [V.ref p1]) = H2 at *
    refine r_rng1' (by decide) (by decide) ?_
    have wt0 : Wait n (ps.map (·.2)) [idN n] ([(p1, idN n)].map (·.2)) none := ⟨by simp, List.mem_cons_self, (fun x hx => by rw [List.mem_singleton.mp hx]; exact .one), (fun x hx => hx), (fun x hx => .inl hx)⟩
    refine for_range (lo := 0) (n := 1000) (fun i σ G => ∃ ws rows y4 y5 y6 y7, σ = [some (iV n), some (.ref pp), some (.ref fd), some (.ref wd), y4, y5, y6, y7] ∧ Same H G ∧ G wd = some (.lst (refsV ws)) ∧ G fd = some (.dT (dictN rows)) ∧ TupR G ws ∧ Wait n (ps.map (·.2)) rows (ws.map (·.2)) none ∧ i + ws.length = rows.length)
      ⟨[(p1, idN n)], [idN n], none, none, none, none, rfl, s0, hW0, hF1, (fun p hp => by rw [List.mem_singleton.mp hp]; exact hT0), wt0, rfl⟩ (fun i σ G hi hP => ?_) (fun σ G hP => ?_)
    · obtain ⟨ws, rows, y4, y5, y6, y7, rfl, sG, hW, hF, hT, wt, cnt⟩ := hP
      have hlen := hB.le hsub0 wt.nd wt.gen
      walk_at "rd"
      refine ⟨Nat.zero_le _, fun pe hpe => ?_⟩
      have se := same_new (o := .lst []) hpe
      refine r_eqD (dp_rows (ps := ws) (SqL.of (se _ _ hW)) fun p hp => SqT.of (se _ _ (hT p hp))) (dp_rows (ps := []) (SqL.of upd_same) fun p hp => nomatch hp) (shaped_rows _) (shaped_rows _) ?_
      rw [eqv_lrows]
      have sG2 := sG.trans se
      have hW2 := se _ _ hW
      have hF2 := se _ _ hF
      have hT2 := hT.k se
      clear sG hW hF hT
      generalize upd G pe (.lst []) = G2 at *
      walk_at "rd"
      refine r_iteD (fun e1 => ?_) (fun e1 => ?_)
      · walk_at "rd"
        have hg : Group n (ps.map (·.2)) rows := ⟨wt.nd, fun x => ⟨wt.gen x, fun g => g.sub wt.one fun y hy m hm => by
          rcases wt.done y hy with h | h | h
          · rw [e1] at h
            exact nomatch h
          · exact nomatch h
          · exact h m hm⟩⟩
        refine r_listN hF2 (fun p qs hp eq tq => ?_)
        walk_at "rd"
        have sp := same_new (o := .lst (refsV qs)) hp
        refine r_sortT (SqL.of upd_same) (fun x hx => ⟨SqT.of ((tq.k sp) x hx), fun e => ?_⟩) (fun zs p2 pz sz hp2 => ?_)
        · have hxr : x.2 ∈ rows := by
            rw [← eq]
            exact List.mem_map_of_mem hx
          have h1 := ((wt.gen _ hxr).row hB.rows).1
          rw [e] at h1
          have h2 : (0 : Nat) = n := h1
          omega
        · have s5 := sp.trans (same_new (o := .lst (refsV zs)) hp2)
          refine q _ p2 zs (sG2.trans s5) ((sG2.trans sp).free hp2) upd_same (fun z hz => s5 _ _ (tq z (pz.mem_iff.mp hz))) sz (group_by hg ?_)
          rw [← eq]
          exact pz.map _
      · have hwne : ws ≠ [] := fun e => e1 (by rw [e, List.map_nil])
        obtain ⟨wi, ⟨b, x0⟩, ew⟩ : ∃ wi y, ws = wi ++ [y] := ⟨ws.dropLast, ws.getLast hwne, (List.dropLast_concat_getLast hwne).symm⟩
        subst ew
        have eV : refsV (wi ++ [(b, x0)]) = refsV wi ++ [V.ref b] := by
          unfold refsV
          rw [List.map_append]
          rfl
        have eM : (wi ++ [(b, x0)]).map (·.2) = wi.map (·.2) ++ [x0] := by
          rw [List.map_append]
          rfl
        rw [eM] at wt
        rw [eV] at hW2
        rw [List.length_append] at cnt
        have cnt2 : i + 1 + wi.length = rows.length := by
          have : [(b, x0)].length = 1 := rfl
          omega
        walk_at "rd"
        refine ⟨_, rfl, ty_l (SqL.of hW2), ?_⟩
        refine ⟨wd, _, .ref b, rfl, rfl, hW2, ?_, ?_⟩
        · rw [List.length_append]
          show (refsV wi ++ [V.ref b])[(refsV wi).length + 1 - 1]? = _
          rw [Nat.add_sub_cancel, List.getElem?_append_right (Nat.le_refl _), Nat.sub_self]
          rfl
        rw [List.dropLast_concat]
        have sG3 := same_mut (o := .lst (refsV wi)) sG2 hwH
        have tup : ∀ (c : Addr) (ys : List V), G2 c = some (.tup ys) → (upd G2 wd (.lst (refsV wi))) c = some (.tup ys) := fun c ys hc => by
          rw [upd_ne (fun e => by rw [e, hW2] at hc; exact nomatch hc)]
          exact hc
        have hT3 : TupR (upd G2 wd (.lst (refsV wi))) wi := fun p hp => tup _ _ (hT2 p (List.mem_append_left _ hp))
        have hb3 := tup _ _ (hT2 (b, x0) (List.mem_append_right _ List.mem_cons_self))
        have hW3 : (upd G2 wd (.lst (refsV wi))) wd = _ := upd_same
        have hF3 : (upd G2 wd (.lst (refsV wi))) fd = _ := (upd_ne hne).trans hF2
        clear tup hT2 hW2 hF2
        generalize upd G2 wd (.lst (refsV wi)) = G3 at *
        walk_at "rd"
        refine ⟨⟨_, sG3.seq hS⟩, ?_⟩
        refine for_list (xs := refsV ps) (fun j σ G => ∃ ws2 rows2 y6 y7, σ = [some (iV n), some (.ref pp), some (.ref fd), some (.ref wd), some (.int (0 + (i : Int))), some (.ref b), y6, y7] ∧ Same H G ∧ G wd = some (.lst (refsV ws2)) ∧ G fd = some (.dT (dictN rows2)) ∧ TupR G ws2 ∧ G b = some (.tup (x0.map iV)) ∧ x0 ∈ rows2 ∧ Wait n (ps.map (·.2)) rows2 (ws2.map (·.2)) (some x0) ∧ i + 1 + ws2.length = rows2.length ∧ ∀ k, k < j → ∀ m, (ps.map (·.2))[k]? = some m → thenN x0 m ∈ rows2)
          ⟨wi, rows, y6, y7, rfl, sG3, hW3, hF3, hT3, hb3, wt.sub x0 (List.mem_append_right _ List.mem_cons_self), ⟨wt.nd, wt.one, wt.gen, fun x hx => wt.sub x (List.mem_append_left _ hx), fun x hx => ?_⟩, cnt2, fun k hk => absurd hk (Nat.not_lt_zero _)⟩ (fun j σ G _ hP => ?_) (fun j x σ G hx hP => ?_) (fun σ G hP => ?_)
        · rcases wt.done x hx with h | h | h
          · rcases List.mem_append.mp h with h | h
            · exact .inl h
            · rw [List.mem_singleton.mp h]
              exact .inr (.inl rfl)
          · exact nomatch h
          · exact .inr (.inr h)
        · obtain ⟨ws2, rows2, z6, z7, rfl, a1, _⟩ := hP
          exact a1.seq hS
        · clear hW3 hF3 hT3 hb3 sG3
          obtain ⟨ws2, rows2, z6, z7, rfl, sG, hW, hF, hT, hb, hx0m, wt2, cnt3, hk⟩ := hP
          obtain ⟨q1, hq1, rfl⟩ : ∃ q1, ps[j]? = some q1 ∧ V.ref q1.1 = x := by
            unfold refsV at hx
            rw [List.getElem?_map] at hx
            obtain ⟨y, h1, h2⟩ := Option.map_eq_some_iff.mp hx
            exact ⟨y, h1, h2⟩
          have hq1m := List.mem_of_getElem? hq1
          have hx0 := (wt2.gen x0 hx0m).row hB.rows
          have hq0 := hB.rows q1.2 (List.mem_map_of_mem hq1m)
          have hlen2 := hB.le hsub0 wt2.nd wt2.gen
          walk_at "rd"
          refine ⟨.ref b, .ref q1.1, x0, q1.2, rfl, row_of (SqT.of hb), row_of (same_t sG (hPT q1 hq1m)), fun y hy => by rw [hq0.1]; exact hx0.2 y hy, by rw [hx0.1]; omega, fun G4 t s3 ht => ?_⟩
          have hW4 := s3 _ _ hW
          have hF4 := s3 _ _ hF
          have hT4 := hT.k s3
          have hb4 := s3 _ _ hb
          have sG4 := sG.trans s3
          walk_at "rd"
          refine r_dni ?_
          walk_at "rd"
          obtain ⟨o3, ho3, eo3⟩ := dni_at hF4 ht
          refine ⟨_, o3, rfl, ho3, ?_⟩
          rw [eo3]
          walk_at "rd"
          refine r_iteD (fun e3 => ?_) (fun e3 => ?_)
          · walk_at "rd"
            refine r_dput ?_
            walk_at "rd"
            refine r_dputE hF4 ht e3 (by omega) ?_
            have hF5 : (upd G4 fd (.dT (dictN (rows2 ++ [thenN x0 q1.2])))) fd = _ := upd_same
            have hW5 : (upd G4 fd (.dT (dictN (rows2 ++ [thenN x0 q1.2])))) wd = _ := (upd_ne hne.symm).trans hW4
            have s5 := same_mut (o := .dT (dictN (rows2 ++ [thenN x0 q1.2]))) sG4 hfd
            have tup4 : ∀ (c : Addr) (ys : List V), G4 c = some (.tup ys) → (upd G4 fd (.dT (dictN (rows2 ++ [thenN x0 q1.2])))) c = some (.tup ys) := fun c ys hc => by
              rw [upd_ne (fun e => by rw [e, hF4] at hc; exact nomatch hc)]
              exact hc
            have ht5 := tup4 _ _ ht
            have hb5 := tup4 _ _ hb4
            have hT5 : TupR (upd G4 fd (.dT (dictN (rows2 ++ [thenN x0 q1.2])))) ws2 := fun p hp => tup4 _ _ (hT4 p hp)
            clear tup4
            generalize upd G4 fd (.dT (dictN (rows2 ++ [thenN x0 q1.2]))) = G5 at *
            walk_at "rd"
            refine ⟨ty_l (SqL.of hW5), ?_⟩
            walk_at "rd"
            refine r_append hW5 (by show (ws2.map _).length < _; rw [List.length_map]; omega) ?_
            have eR : (ws2 ++ [(t, thenN x0 q1.2)]).map (·.2) = ws2.map (·.2) ++ [thenN x0 q1.2] := by rw [List.map_append]; rfl
            have tup5 : ∀ (c : Addr) (ys : List V), G5 c = some (.tup ys) → (upd G5 wd (.lst (refsV ws2 ++ [V.ref t]))) c = some (.tup ys) := fun c ys hc => by
              rw [upd_ne (fun e => by rw [e, hW5] at hc; exact nomatch hc)]
              exact hc
            refine ⟨ws2 ++ [(t, thenN x0 q1.2)], rows2 ++ [thenN x0 q1.2], _, _, rfl, same_mut s5 hwH, ?_, ?_, ?_, tup5 _ _ hb5, List.mem_append_left _ hx0m, ?_, ?_, ?_⟩
            · rw [upd_same]
              unfold refsV
              rw [List.map_append]
              rfl
            · rw [upd_ne hne]
              exact hF5
            · exact TupR.snoc (fun p hp => tup5 _ _ (hT5 p hp)) (tup5 _ _ ht5)
            · rw [eR]
              exact wt2.add e3 (.step (wt2.gen x0 hx0m) (List.mem_map_of_mem hq1m))
            · rw [List.length_append, List.length_append]
              show i + 1 + (ws2.length + 1) = rows2.length + 1
              omega
            · intro k hkj m hm
              by_cases e : k = j
              · subst e
                rw [List.getElem?_map, hq1] at hm
                rw [← Option.some.inj hm]
                exact List.mem_append_right _ List.mem_cons_self
              · exact List.mem_append_left _ (hk k (by omega) m hm)
          · walk_at "rd"
            refine ⟨ws2, rows2, _, _, rfl, sG4, hW4, hF4, hT4, hb4, hx0m, wt2, cnt3, fun k hkj m hm => ?_⟩
            by_cases e : k = j
            · subst e
              rw [List.getElem?_map, hq1] at hm
              rw [← Option.some.inj hm]
              exact Classical.not_not.mp e3
            · exact hk k (by omega) m hm
        · obtain ⟨ws2, rows2, z6, z7, rfl, sG, hW, hF, hT, hb, hx0m, wt2, cnt3, hk⟩ := hP
          refine ⟨ws2, rows2, _, _, _, _, rfl, sG, hW, hF, hT, ⟨wt2.nd, wt2.one, wt2.gen, wt2.sub, fun x hx => ?_⟩, cnt3⟩
          rcases wt2.done x hx with h | h | h
          · exact .inl h
          · refine .inr (.inr fun m hm => ?_)
            rw [Option.some.inj h]
            obtain ⟨k, hkm⟩ := List.mem_iff_getElem?.mp hm
            have hkl := (List.getElem?_eq_some_iff.mp hkm).1
            exact hk k (by show k < (ps.map _).length; rw [List.length_map] at hkl ⊢; exact hkl) m hkm
          · exact .inr (.inr h)
    · obtain ⟨ws, rows, y4, y5, y6, y7, rfl, sG, hW, hF, hT, wt, cnt⟩ := hP
      have hlen := hB.le hsub0 wt.nd wt.gen
      omega
end

section
variable {P : Program} {w : World} {K : PySem.W.Frag} {mg : Str → Option Value} {base : Heap} {a : Ad}
def spGens (K : PySem.W.Frag) : Sp := fun vs H Q _ => ∃ (pn : Addr) (ns : List Int) (n : Nat), vs = [.ref pn, iV n] ∧ SqL K H pn (ns.map V.int) ∧ 13 ≤ ns.length ∧ 1 ≤ n ∧ n ≤ 6 ∧
  ∀ (H' : Hp) (p : Addr) (ps : List (Addr × List Nat)), Same H H' → H p = none → H' p = some (.lst (refsV ps)) → TupR H' ps → (∀ q ∈ ps, Perm n q.2) → ps.length ≤ 2 → Q (.ref p) H'
theorem ok_l_generators (T : Txt K mg a) : FnOk P w K mg base CX0 2 a.f_l_generators a.d_l_generators ["numbers", "places"] (spGens K) := by
  have G_l_permutation := ok_l_permutation (P := P) (w := w) (base := base) T
  have G_l_then := ok_l_then (P := P) (w := w) (base := base) T
  refine T.F_l_generators.ok sc_l_generators (fun vs H Q E h => ?_) (fun cdv A outer s H vs Q E hr h => ?_)
  · obtain ⟨pn, ns, n, rfl, _⟩ := h
    rfl
  · obtain ⟨pn, ns, n, rfl, hN, hlen, n1, n6, q⟩ := h
    have zl : (sizeLine : Nat) = 16777216 := by decide
    have hn0 : (0 : Int) < (n : Int) := by omega
    obtain ⟨wp, rp⟩ := wheel_perm n1 n6
    refine ⟨_, (pss_cons (ps_set (i := 2) sc_l_generators.nd rfl (Or.inl rfl) (pe_op op_mod (pe_ix (ix_listK (K := K) rfl) (pv 0) pe_int (fun _ _ => rfl)) pe_int))
      (pss_cons (ps_set (i := 3) sc_l_generators.nd rfl (Or.inl rfl) (pe_callTy (call_tupOfK (K := K) rfl) (by rfl) T.z_tuple (by decide +kernel) (pa_cons (pe_lc (own := [("k", 6)]) (g := gName 6) (tt := tYes) rfl sc_l_generators.nd (pi_range1 (by rfl) T.z_range (pa_cons (pv 1) pa_nil)) (blkOk_by (N := N_l_generators) (sc := (defScope s_l_generators)) (by decide +kernel)) (fun _ _ _ _ _ => pg_name (i := 6) sc_l_generators.nd rfl (by first | exact Or.inl rfl | exact Or.inr rfl)) (fun _ _ _ _ _ => pts_nil) (fun _ _ _ _ _ => (pe_op op_mod (pe_op op_add (pv 6) pe_int) (pv 1)))) pa_nil)))
      (pss_cons (ps_if (pt_cmpR op_eq (pv 2) pe_int (nomark _)) (pss_one (ps_ret (pe_lst (pa_cons (pe_call (G_l_permutation) (hr.mono (by first | decide | omega)) (by rfl) T.g_l_permutation T.F_l_permutation.kp T.b_l_permutation .nil pass0 (pa_cons (pe_slice (sl_listK (K := K) rfl) (pv 0) (po_some pe_int) po_none) (pa_cons (pv 1) pa_nil))) pa_nil)))) pss_nil)
      (pss_cons (ps_if (pt_cmpR op_eq (pv 2) pe_int (nomark _)) (pss_one (ps_ret (pe_lst (pa_cons (pv 3) pa_nil)))) pss_nil)
      (pss_cons (ps_if (pt_cmpR op_eq (pv 2) pe_int (nomark _)) (pss_one (ps_ret (pe_lst (pa_cons (pv 3) (pa_cons (pe_callTy (call_tupOfK (K := K) rfl) (by rfl) T.z_tuple (by decide +kernel) (pa_cons (pe_lc (own := [("k", 6)]) (g := gName 6) (tt := tYes) rfl sc_l_generators.nd (pi_range1 (by rfl) T.z_range (pa_cons (pv 1) pa_nil)) (blkOk_by (N := N_l_generators) (sc := (defScope s_l_generators)) (by decide +kernel)) (fun _ _ _ _ _ => pg_name (i := 6) sc_l_generators.nd rfl (by first | exact Or.inl rfl | exact Or.inr rfl)) (fun _ _ _ _ _ => pts_nil) (fun _ _ _ _ _ => (pe_op op_mod (pe_op op_sub (pv 1) (pv 6)) (pv 1)))) pa_nil)) pa_nil))))) pss_nil)
      (pss_cons (ps_if (pt_cmpR op_eq (pv 2) pe_int (nomark _)) (pss_one (ps_ret (pe_lst (pa_cons (pe_call (G_l_permutation) (hr.mono (by first | decide | omega)) (by rfl) T.g_l_permutation T.F_l_permutation.kp T.b_l_permutation .nil pass0 (pa_cons (pe_slice (sl_listK (K := K) rfl) (pv 0) (po_some pe_int) po_none) (pa_cons (pv 1) pa_nil))) (pa_cons (pe_call (G_l_permutation) (hr.mono (by first | decide | omega)) (by rfl) T.g_l_permutation T.F_l_permutation.kp T.b_l_permutation .nil pass0 (pa_cons (pe_slice (sl_listK (K := K) rfl) (pv 0) (po_some pe_int) po_none) (pa_cons (pv 1) pa_nil))) pa_nil))))) pss_nil)
      (pss_cons (ps_set (i := 4) sc_l_generators.nd rfl (Or.inl rfl) (pe_call (G_l_permutation) (hr.mono (by first | decide | omega)) (by rfl) T.g_l_permutation T.F_l_permutation.kp T.b_l_permutation .nil pass0 (pa_cons (pe_slice (sl_listK (K := K) rfl) (pv 0) (po_some pe_int) po_none) (pa_cons (pv 1) pa_nil))))
      (pss_cons (ps_set (i := 5) sc_l_generators.nd rfl (Or.inl rfl) (pe_call (G_l_permutation) (hr.mono (by first | decide | omega)) (by rfl) T.g_l_permutation T.F_l_permutation.kp T.b_l_permutation .nil pass0 (pa_cons (pe_slice (sl_listK (K := K) rfl) (pv 0) (po_some pe_int) po_none) (pa_cons (pv 1) pa_nil))))
      (pss_one (ps_ret (pe_lst (pa_cons (pe_call (G_l_then) (hr.mono (by first | decide | omega)) (by rfl) T.g_l_then T.F_l_then.kp T.b_l_then .nil pass0 (pa_cons (pv 4) (pa_cons (pv 4) pa_nil))) (pa_cons (pe_call (G_l_then) (hr.mono (by first | decide | omega)) (by rfl) T.g_l_then T.F_l_then.kp T.b_l_then .nil pass0 (pa_cons (pv 5) (pa_cons (pv 5) pa_nil))) pa_nil))))))))))))), ?_⟩
    walk_at "rd"
    refine r_ixL hN (at_int (by decide) (by omega)) ?_
    walk_at "rd"
    generalize ns.getD (0 : Int).toNat 0 % 5 = so
    refine r_rng1' (by omega) (by omega) ?_
    rw [Int.toNat_natCast]
    intro D hD
    refine lc_range (lo := 0) (n := n) (fun j G2 => Same H G2 ∧ G2 D = some (.lst (((List.range j).map fun k => (k + 1) % n).map iV))) ⟨same_new hD, by rw [upd_same]; rfl⟩ (fun j G2 hj hQ => ?_) (fun G2 hQ => ?_)
    · obtain ⟨sG, hG⟩ := hQ
      refine ⟨rfl, r_yes (iteT ?_)⟩
      walk_at "rd"
      refine r_mod (j := (n : Int)) hn0 ?_
      have em : (0 + (j : Int) + 1) % (n : Int) = (((j + 1) % n : Nat) : Int) := by
        rw [Int.natCast_emod, Int.zero_add]
        rfl
      refine ⟨_, hG, by rw [List.length_map, List.length_map, List.length_range]; omega, same_mut sG hD, ?_⟩
      rw [upd_same, List.range_succ, List.map_append, List.map_append, em]
      rfl
    obtain ⟨sG, hG⟩ := hQ
    have hG2 : G2 D = some (.lst ((rot n 1).map iV)) := hG
    walk_at "rd"
    refine r_tupL (SqL.of hG2) (fun t ht => ?_)
    have s1 := sG.trans (same_new (o := .tup ((rot n 1).map iV)) ht)
    have hW : (upd G2 t (.tup ((rot n 1).map iV))) t = _ := upd_same
    clear sG hG hG2 hD ht
    generalize upd G2 t (.tup ((rot n 1).map iV)) = H1 at *
    have hN1 := s1.seq hN
    walk_at "rd"
    refine r_iteD (fun e1 => ?_) (fun e1 => ?_)
    · walk_at "rd"
      refine r_slL hN1 (fun p7 hp7 => ?_)
      rw [cut_1, ← List.map_drop]
      walk_at "rd"
      refine ⟨p7, ns.drop 1, n, rfl, SqL.of upd_same, by rw [List.length_drop]; omega, by omega, fun H2 t1 r1 s2 h1 hP1 => ?_⟩
      walk_at "rd"
      refine ⟨ln1, fun pr hpr => ?_⟩
      have s3 := s1.trans ((same_new hp7).trans s2)
      have s4 := same_new (o := .lst [V.ref t1]) hpr
      exact q _ pr [(t1, r1)] (s3.trans s4) (s3.free hpr) upd_same (fun p hp => by rw [List.mem_singleton.mp hp]; exact s4 _ _ h1) (fun p hp => by rw [List.mem_singleton.mp hp]; exact hP1) (Nat.le_succ 1)
    walk_at "rd"
    refine r_iteD (fun e2 => ?_) (fun e2 => ?_)
    · walk_at "rd"
      refine ⟨ln1, fun pr hpr => ?_⟩
      have s4 := same_new (o := .lst [V.ref t]) hpr
      exact q _ pr [(t, rot n 1)] (s1.trans s4) (s1.free hpr) upd_same (fun p hp => by rw [List.mem_singleton.mp hp]; exact s4 _ _ hW) (fun p hp => by rw [List.mem_singleton.mp hp]; exact wp) (Nat.le_succ 1)
    walk_at "rd"
    refine r_iteD (fun e3 => ?_) (fun e3 => ?_)
    · walk_at "rd"
      refine r_rng1' (by omega) (by omega) ?_
      rw [Int.toNat_natCast]
      intro D hD
      refine lc_range (lo := 0) (n := n) (fun j G2 => Same H1 G2 ∧ G2 D = some (.lst (((List.range j).map fun k => (n - k) % n).map iV))) ⟨same_new hD, by rw [upd_same]; rfl⟩ (fun j G2 hj hQ => ?_) (fun G2 hQ => ?_)
      · obtain ⟨sG, hG⟩ := hQ
        refine ⟨rfl, r_yes (iteT ?_)⟩
        walk_at "rd"
        refine r_I0 (i := (n : Int)) ?_
        walk_at "rd"
        refine r_mod (j := (n : Int)) hn0 ?_
        have em : ((n : Int) - (0 + (j : Int))) % (n : Int) = (((n - j) % n : Nat) : Int) := by
          rw [Int.natCast_emod, Int.zero_add, Int.ofNat_sub (by omega)]
        refine ⟨_, hG, by rw [List.length_map, List.length_map, List.length_range]; omega, same_mut sG hD, ?_⟩
        rw [upd_same, List.range_succ, List.map_append, List.map_append, em]
        rfl
      obtain ⟨sG, hG⟩ := hQ
      have hG2 : G2 D = some (.lst ((reflN n).map iV)) := hG
      walk_at "rd"
      refine r_tupL (SqL.of hG2) (fun t2 ht2 => ?_)
      have s5 := sG.trans (same_new (o := .tup ((reflN n).map iV)) ht2)
      have hR : (upd G2 t2 (.tup ((reflN n).map iV))) t2 = _ := upd_same
      walk_at "rd"
      refine ⟨ln2, fun pr hpr => ?_⟩
      have s4 := same_new (o := .lst [V.ref t, V.ref t2]) hpr
      refine q _ pr [(t, rot n 1), (t2, reflN n)] (s1.trans (s5.trans s4)) ((s1.trans s5).free hpr) upd_same (fun p hp => ?_) (fun p hp => ?_) (Nat.le_refl 2)
      · rcases List.mem_cons.mp hp with rfl | hp
        · exact s4 _ _ (s5 _ _ hW)
        · rw [List.mem_singleton.mp hp]; exact s4 _ _ hR
      · rcases List.mem_cons.mp hp with rfl | hp
        · exact wp
        · rw [List.mem_singleton.mp hp]; exact rp
    walk_at "rd"
    refine r_iteD (fun e4 => ?_) (fun e4 => ?_)
    · walk_at "rd"
      refine r_slL hN1 (fun p7 hp7 => ?_)
      rw [cut_1, ← List.map_drop]
      walk_at "rd"
      refine ⟨p7, ns.drop 1, n, rfl, SqL.of upd_same, by rw [List.length_drop]; omega, by omega, fun H2 t1 r1 s2 h1 hP1 => ?_⟩
      have s3 := s1.trans ((same_new hp7).trans s2)
      walk_at "rd"
      refine r_slL (s3.seq hN) (fun p8 hp8 => ?_)
      rw [show cutV (ns.map V.int) (some (7 : Int)) none = (ns.map V.int).drop 7 from cut_drop _ 7, ← List.map_drop]
      walk_at "rd"
      refine ⟨p8, ns.drop 7, n, rfl, SqL.of upd_same, by rw [List.length_drop]; omega, by omega, fun H4 t2 r2 s4 h2 hP2 => ?_⟩
      have s5 := (same_new hp8).trans s4
      walk_at "rd"
      refine ⟨ln2, fun pr hpr => ?_⟩
      have s6 := same_new (o := .lst [V.ref t1, V.ref t2]) hpr
      refine q _ pr [(t1, r1), (t2, r2)] (s3.trans (s5.trans s6)) ((s3.trans s5).free hpr) upd_same (fun p hp => ?_) (fun p hp => ?_) (Nat.le_refl 2)
      · rcases List.mem_cons.mp hp with rfl | hp
        · exact s6 _ _ (s5 _ _ h1)
        · rw [List.mem_singleton.mp hp]; exact s6 _ _ h2
      · rcases List.mem_cons.mp hp with rfl | hp
        · exact hP1
        · rw [List.mem_singleton.mp hp]; exact hP2
    walk_at "rd"
    refine r_slL hN1 (fun p7 hp7 => ?_)
    rw [cut_1, ← List.map_drop]
    walk_at "rd"
    refine ⟨p7, ns.drop 1, n, rfl, SqL.of upd_same, by rw [List.length_drop]; omega, by omega, fun H2 t1 r1 s2 h1 hP1 => ?_⟩
    have s3 := s1.trans ((same_new hp7).trans s2)
    walk_at "rd"
    refine r_slL (s3.seq hN) (fun p8 hp8 => ?_)
    rw [show cutV (ns.map V.int) (some (7 : Int)) none = (ns.map V.int).drop 7 from cut_drop _ 7, ← List.map_drop]
    walk_at "rd"
    refine ⟨p8, ns.drop 7, n, rfl, SqL.of upd_same, by rw [List.length_drop]; omega, by omega, fun H4 t2 r2 s4 h2 hP2 => ?_⟩
    have s5 := (same_new hp8).trans s4
    have d1 := row_of (K := K) (SqT.of (s5 _ _ h1))
    walk_at "rd"
    refine ⟨.ref t1, .ref t1, r1, r1, rfl, d1, d1, fun x hx => by rw [hP1.len]; exact hP1.lt x hx, by rw [hP1.len]; omega, fun H5 t3 s7 h3 => ?_⟩
    walk_at "rd"
    have d2 := row_of (K := K) (SqT.of (s7 _ _ h2))
    refine ⟨.ref t2, .ref t2, r2, r2, rfl, d2, d2, fun x hx => by rw [hP2.len]; exact hP2.lt x hx, by rw [hP2.len]; omega, fun H6 t4 s8 h4 => ?_⟩
    walk_at "rd"
    refine ⟨ln2, fun pr hpr => ?_⟩
    have s6 := same_new (o := .lst [V.ref t3, V.ref t4]) hpr
    refine q _ pr [(t3, thenN r1 r1), (t4, thenN r2 r2)] (s3.trans (s5.trans (s7.trans (s8.trans s6)))) ((s3.trans (s5.trans (s7.trans s8))).free hpr) upd_same (fun p hp => ?_) (fun p hp => ?_) (Nat.le_refl 2)
    · rcases List.mem_cons.mp hp with rfl | hp
      · exact s6 _ _ (s8 _ _ h3)
      · rw [List.mem_singleton.mp hp]; exact s6 _ _ h4
    · rcases List.mem_cons.mp hp with rfl | hp
      · exact hP1.then hP1
      · rw [List.mem_singleton.mp hp]; exact hP2.then hP2
end

section
variable {P : Program} {w : World} {K : PySem.W.Frag} {mg : Str → Option Value} {base : Heap} {a : Ad}
def sp_law (K : PySem.W.Frag) : Sp := fun vs H Q _ => ∃ (a : Addr) (ns : List Int), vs = [.ref a] ∧ SqL K H a (ns.map V.int) ∧ ns.length ≤ 63 ∧ ∀ H', Q (.bl true) H'
theorem small_bnd {n : Nat} {ps : List (Addr × List Nat)} (n6 : n ≤ 6) (hp : ∀ q ∈ ps, Perm n q.2) : Bnd n (ps.map (·.2)) (extP n n) (extP n n).length ∧ (extP n n).length ≤ 999 ∧ (extP n n).length ≤ Builtin.Math.factorialNat n := by
  refine ⟨bnd_small n6 fun m hm => ?_, ?_, (fact_ok n (by omega)).2.1 n6⟩
  · obtain ⟨p, h1, rfl⟩ := List.mem_map.mp hm
    exact hp p h1
  · have := (ext_len n6).1
    omega
theorem r_tupRg2N {σ : L2.St} {H : Hp} {Q : VK} {ta tb : TE} {f o : Nat} (h1 : f + o ≤ 1000) (q : ∀ p, H p = none → Q (.ref p) (upd H p (.tup ((List.range o).map fun k => iV (f + k)))))
    (h : ∀ R : V → V → Hp → Prop, R (V.int (f : Int)) (V.int ((f : Int) + (o : Int))) H → ta σ H fun x H1 => tb σ H1 fun y H2 => R x y H2) : tTupRg (tRg2 ta tb) σ H Q := by
  refine h (fun x y H2 => ∃ i j, x = .int i ∧ y = .int j ∧ RgOk i j ∧ ∀ q, H2 q = none → Q (.ref q) (upd H2 q (.tup (rgV i j)))) ⟨f, (f : Int) + o, rfl, rfl, RgOk.of_le (by omega) (by omega) (by omega) (by omega), fun p hp => ?_⟩
  have e : rgV (f : Int) ((f : Int) + (o : Int)) = (List.range o).map fun k => iV (f + k) := by
    unfold rgV
    rw [show ((f : Int) + (o : Int) - (f : Int)).toNat = o by omega]
    rfl
  rw [e]
  exact q p hp
theorem one_two (f o : Nat) : (rot f 1).map iV ++ ((List.range o).map fun k => iV (f + k)) = (rot2 f o 1 0).map iV := by
  unfold rot2
  rw [rot_zero, List.map_append, List.map_map]
  rfl
theorem two_two (f o : Nat) : (List.range f).map iV ++ (((List.range o).map fun k => f + (k + 1) % o).map iV) = (rot2 f o 0 1).map iV := by
  unfold rot2
  rw [rot_zero, List.map_append, show (rot o 1).map (fun x => f + x) = (List.range o).map fun k => f + (k + 1) % o from by unfold rot; rw [List.map_map]; rfl]
  rfl
theorem ok_law (T : Txt K mg a) : FnOk P w K mg base CX0 5 a.f_law a.d_law ["script"] (sp_law K) := by
  have G_l_cell := ok_l_cell (P := P) (w := w) (base := base) T
  have G_l_closed := ok_l_closed (P := P) (w := w) (base := base) T
  have G_l_generators := ok_l_generators (P := P) (w := w) (base := base) T
  have G_l_numbers := ok_l_numbers (P := P) (w := w) (base := base) T
  have G_l_same := ok_l_same (P := P) (w := w) (base := base) T
  have G_generated := ok_generated (P := P) (w := w) (base := base) T
  refine T.F_law.ok sc_law (fun vs H Q E h => ?_) (fun cdv A outer s H vs Q E hr h => ?_)
  · obtain ⟨l, ns, rfl, _⟩ := h
    rfl
  · obtain ⟨l, sc, rfl, hS, _, q⟩ := h
    have zl : (sizeLine : Nat) = 16777216 := by decide
    refine ⟨_, (pss_cons (ps_set (i := 1) sc_law.nd rfl (Or.inl rfl) (pe_call (G_l_numbers) (hr.mono (by first | decide | omega)) (by rfl) T.g_l_numbers T.F_l_numbers.kp T.b_l_numbers .nil pass0 (pa_cons (pe_call (G_l_cell) (hr.mono (by first | decide | omega)) (by rfl) T.g_l_cell T.F_l_cell.kp T.b_l_cell .nil pass0 (pa_cons (pv 0) (pa_cons pe_int pa_nil))) (pa_cons pe_int pa_nil))))
      (pss_cons (ps_set (i := 2) sc_law.nd rfl (Or.inr rfl) (pe_op op_add pe_int (pe_op op_mod (pe_ix (ix_listK (K := K) rfl) (pv 1) pe_int (fun _ _ => rfl)) pe_int)))
      (pss_cons (ps_if (pt_cmpR op_eq (pe_op op_mod (pe_ix (ix_listK (K := K) rfl) (pv 1) pe_int (fun _ _ => rfl)) pe_int) pe_int (nomark _)) (pss_one (ps_set (i := 2) sc_law.nd rfl (Or.inr rfl) pe_int)) pss_nil)
      (pss_cons (ps_set (i := 3) sc_law.nd rfl (Or.inl rfl) (pe_call (G_l_generators) (hr.mono (by first | decide | omega)) (by rfl) T.g_l_generators T.F_l_generators.kp T.b_l_generators .nil pass0 (pa_cons (pe_slice (sl_listK (K := K) rfl) (pv 1) (po_some pe_int) po_none) (pa_cons (pv 2) pa_nil))))
      (pss_cons (ps_if (pt_cmpR op_eq (pe_op op_mod (pe_ix (ix_listK (K := K) rfl) (pv 1) pe_int (fun _ _ => rfl)) pe_int) pe_int (nomark _)) (pss_one (ps_set (i := 3) sc_law.nd rfl (Or.inl rfl) (pe_lst pa_nil))) pss_nil)
      (pss_cons (ps_if (pt_cmpR op_eq (pe_op op_mod (pe_ix (ix_listK (K := K) rfl) (pv 1) pe_int (fun _ _ => rfl)) pe_int) pe_int (nomark _)) (pss_one (ps_set (i := 3) sc_law.nd rfl (Or.inl rfl) (pe_op op_cat (pe_op op_cat (pv 3) (pv 3)) (pe_lst (pa_cons (pe_tupRg rfl (by rfl) T.z_tuple (prg_1 (by rfl) T.z_range (pv 2))) pa_nil))))) pss_nil)
      (pss_cons (ps_if (pt_cmpR op_eq (pe_op op_mod (pe_ix (ix_listK (K := K) rfl) (pv 1) pe_int (fun _ _ => rfl)) pe_int) pe_int (nomark _)) (pss_cons (ps_set (i := 2) sc_law.nd rfl (Or.inr rfl) (pe_op op_add pe_int (pe_op op_mod (pe_ix (ix_listK (K := K) rfl) (pv 1) pe_int (fun _ _ => rfl)) pe_int)))
      (pss_one (ps_set (i := 3) sc_law.nd rfl (Or.inl rfl) (pe_lst (pa_cons (pe_callTy (call_tupOfK (K := K) rfl) (by rfl) T.z_tuple (by decide +kernel) (pa_cons (pe_lc (own := [("k", 11)]) (g := gName 11) (tt := tYes) rfl sc_law.nd (pi_range1 (by rfl) T.z_range (pa_cons (pv 2) pa_nil)) (blkOk_by (N := N_law) (sc := (defScope s_law)) (by decide +kernel)) (fun _ _ _ _ _ => pg_name (i := 11) sc_law.nd rfl (by first | exact Or.inl rfl | exact Or.inr rfl)) (fun _ _ _ _ _ => pts_nil) (fun _ _ _ _ _ => (pe_op op_mod (pe_callTy call_int1' (by rfl) T.z_int (by decide +kernel) (pa_cons (pe_op op_add (pv 11) pe_int) pa_nil)) (pv 2)))) pa_nil)) pa_nil))))) pss_nil)
      (pss_cons (ps_if (pt_cmpR op_eq (pe_op op_mod (pe_ix (ix_listK (K := K) rfl) (pv 1) pe_int (fun _ _ => rfl)) pe_int) pe_int (nomark _)) (pss_cons (ps_set (i := 4) sc_law.nd rfl (Or.inr rfl) (pe_op op_add pe_int (pe_op op_mod (pe_ix (ix_listK (K := K) rfl) (pv 1) pe_int (fun _ _ => rfl)) pe_int)))
      (pss_cons (ps_set (i := 5) sc_law.nd rfl (Or.inr rfl) (pe_op op_add pe_int (pe_op op_mod (pe_ix (ix_listK (K := K) rfl) (pv 1) pe_int (fun _ _ => rfl)) pe_int)))
      (pss_cons (ps_set (i := 2) sc_law.nd rfl (Or.inr rfl) (pe_op op_add (pv 4) (pv 5)))
      (pss_cons (ps_set (i := 6) sc_law.nd rfl (Or.inl rfl) (pe_op (op_catTK (K := K) rfl) (pe_callTy (call_tupOfK (K := K) rfl) (by rfl) T.z_tuple (by decide +kernel) (pa_cons (pe_lc (own := [("k", 11)]) (g := gName 11) (tt := tYes) rfl sc_law.nd (pi_range1 (by rfl) T.z_range (pa_cons (pv 4) pa_nil)) (blkOk_by (N := N_law) (sc := (defScope s_law)) (by decide +kernel)) (fun _ _ _ _ _ => pg_name (i := 11) sc_law.nd rfl (by first | exact Or.inl rfl | exact Or.inr rfl)) (fun _ _ _ _ _ => pts_nil) (fun _ _ _ _ _ => (pe_op op_mod (pe_op op_add (pv 11) pe_int) (pv 4)))) pa_nil)) (pe_tupRg rfl (by rfl) T.z_tuple (prg_2 (by rfl) T.z_range (pv 4) (pv 2)))))
      (pss_cons (ps_set (i := 7) sc_law.nd rfl (Or.inl rfl) (pe_op (op_catTK (K := K) rfl) (pe_tupRg rfl (by rfl) T.z_tuple (prg_1 (by rfl) T.z_range (pv 4))) (pe_callTy (call_tupOfK (K := K) rfl) (by rfl) T.z_tuple (by decide +kernel) (pa_cons (pe_lc (own := [("k", 11)]) (g := gName 11) (tt := tYes) rfl sc_law.nd (pi_range1 (by rfl) T.z_range (pa_cons (pv 5) pa_nil)) (blkOk_by (N := N_law) (sc := (defScope s_law)) (by decide +kernel)) (fun _ _ _ _ _ => pg_name (i := 11) sc_law.nd rfl (by first | exact Or.inl rfl | exact Or.inr rfl)) (fun _ _ _ _ _ => pts_nil) (fun _ _ _ _ _ => (pe_op op_add (pv 4) (pe_op op_mod (pe_op op_add (pv 11) pe_int) (pv 5))))) pa_nil))))
      (pss_one (ps_set (i := 3) sc_law.nd rfl (Or.inl rfl) (pe_lst (pa_cons (pv 6) (pa_cons (pv 7) pa_nil)))))))))) pss_nil)
      (pss_cons (ps_set (i := 8) sc_law.nd rfl (Or.inl rfl) (pe_callTy (call_lstOfK (K := K) rfl) (by rfl) T.z_list (by decide +kernel) (pa_cons (pv 3) pa_nil)))
      (pss_cons (ps_set (i := 9) sc_law.nd rfl (Or.inl rfl) (pe_call (G_l_closed) (hr.mono (by first | decide | omega)) (by rfl) T.g_l_closed T.F_l_closed.kp T.b_l_closed .nil pass0 (pa_cons (pv 2) (pa_cons (pv 3) pa_nil))))
      (pss_cons (ps_set (i := 10) sc_law.nd rfl (Or.inl rfl) (pe_call (G_generated) (hr.mono (by first | decide | omega)) (by rfl) T.g_generated T.F_generated.kp T.b_generated .nil pass0 (pa_cons (pv 2) (pa_cons (pv 8) pa_nil))))
      (pss_cons (ps_if (PW.pt (pw_or (pt_not (pt_val (pe_call (G_l_same) (hr.mono (by first | decide | omega)) (by rfl) T.g_l_same T.F_l_same.kp T.b_l_same .nil pass0 (pa_cons (pv 10) (pa_cons (pv 9) pa_nil))))) (pw_or1 (pt_cmpR (op_neDK (K := K) rfl hr.units) (pv 8) (pv 3) (nomark _))))) (pss_one (ps_ret pe_bl)) pss_nil)
      (pss_cons (ps_expr (bm0K (K := K) rfl (pe_bm0 PySem.F.plainAttrs_list PySem.F.slot_list_clear PySem.F.type_list_clear mt_clear (pv 10))))
      (pss_one (ps_ret (pe_call (G_l_same) (hr.mono (by first | decide | omega)) (by rfl) T.g_l_same T.F_l_same.kp T.b_l_same .nil pass0 (pa_cons (pe_call (G_generated) (hr.mono (by first | decide | omega)) (by rfl) T.g_generated T.F_generated.kp T.b_generated .nil pass0 (pa_cons (pv 2) (pa_cons (pv 8) pa_nil))) (pa_cons (pv 9) pa_nil)))))))))))))))))), ?_⟩
    walk_at "rd"
    refine ⟨l, sc, 0, rfl, hS, by decide, ?_⟩
    walk_at "rd"
    refine ⟨_, 20, rfl, by omega, fun H1 pn ns s1 hpn hN hlen hz => ?_⟩
    walk_at "rd"
    refine r_ixL (SqL.of hN) (at_int (by decide) (by omega)) ?_
    walk_at "rd1"
    walk_at "rd1"
    walk_at "rd1"
    obtain ⟨n0, en, n1, n5⟩ : ∃ n : Nat, 1 + ns.getD (0 : Int).toNat 0 % 5 = (n : Int) ∧ 1 ≤ n ∧ n ≤ 6 := by
      have := emod_rng (ns.getD (0 : Int).toNat 0) (b := 5) (by decide)
      exact ⟨(1 + ns.getD (0 : Int).toNat 0 % 5).toNat, by omega, by omega, by omega⟩
    rw [en]
    clear en
    with_reducible refine r_cutJ (fun σ G => G = H1 ∧ ∃ n : Nat, 1 ≤ n ∧ n ≤ 6 ∧ σ = [some (.ref l), some (.ref pn), some (iV n), none, none, none, none, none, none, none, none, none]) (fun σ G hJ => ?_) (fun key => ?_)
    rotate_left
    · walk_at "rd"
      refine r_ixL (SqL.of hN) (at_int (by decide) (by omega)) ?_
      walk_at "rd"
      refine r_iteD (fun e1 => ?_) (fun e1 => ?_)
      · iterate 3 walk_at "rd1"
        exact key _ _ ⟨rfl, 6, by decide, by decide, rfl⟩
      · exact key _ _ ⟨rfl, n0, n1, n5, rfl⟩
    clear n1 n5 n0
    obtain ⟨rfl, n, n1, n6, rfl⟩ := hJ
    walk_at "rd"
    refine r_slL (SqL.of hN) (fun p7 hp7 => ?_)
    rw [show cutV (ns.map V.int) (some (2 : Int)) none = (ns.map V.int).drop 2 from cut_drop _ 2, ← List.map_drop]
    walk_at "rd"
    refine ⟨p7, ns.drop 2, n, rfl, SqL.of upd_same, by rw [List.length_drop]; omega, n1, n6, fun H2 pp ps s2 hfr hL hT hP l2 => ?_⟩
    have sA := (same_new hp7).trans s2
    have hN2 := sA _ _ hN
    have hS2 := (s1.trans sA).seq hS
    clear hp7 s2 hfr
    with_reducible refine r_cutJ (fun σ G => Same H2 G ∧ ∃ pp ps, σ = [some (.ref l), some (.ref pn), some (iV n), some (.ref pp), none, none, none, none, none, none, none, none] ∧ G pp = some (.lst (refsV ps)) ∧ TupR G ps ∧ (∀ q ∈ ps, Perm n q.2) ∧ ps.length ≤ 2) (fun σ G hJ => ?_) (fun key => ?_)
    rotate_left
    · walk_at "rd"
      refine r_ixL (SqL.of hN2) (at_int (by decide) (by omega)) ?_
      walk_at "rd"
      refine r_iteD (fun e1 => ?_) (fun e1 => ?_)
      · walk_at "rd"
        refine ⟨Nat.zero_le _, fun pe hpe => ?_⟩
        walk_at "rd1"
        exact key _ _ ⟨same_new hpe, pe, [], rfl, upd_same, (fun p hp => nomatch hp), (fun p hp => nomatch hp), Nat.zero_le _⟩
      · exact key _ _ ⟨Same.refl _, pp, ps, rfl, hL, hT, hP, l2⟩
    clear hL hT hP l2 pp ps
    obtain ⟨sB, pp, ps, rfl, hL, hT, hP, l2⟩ := hJ
    have hN3 := sB _ _ hN2
    have n64 : n ≤ 64 := by omega
    obtain ⟨b1, b2, b3⟩ := small_bnd (ps := ps) n6 hP
    with_reducible refine r_cutJ (fun σ G => Same H2 G ∧ ∃ pp ps, σ = [some (.ref l), some (.ref pn), some (iV n), some (.ref pp), none, none, none, none, none, none, none, none] ∧ G pp = some (.lst (refsV ps)) ∧ TupR G ps ∧ (∀ q ∈ ps, Perm n q.2) ∧ ps.length ≤ 5) (fun σ G hJ => ?_) (fun key => ?_)
    rotate_left
    · walk_at "rd"
      refine r_ixL (SqL.of hN3) (at_int (by decide) (by omega)) ?_
      walk_at "rd"
      refine r_iteD (fun e1 => ?_) (fun e1 => ?_)
      · walk_at "rd"
        refine r_cat hL hL (by show (ps.map _).length + (ps.map _).length ≤ _; rw [List.length_map]; omega) (fun p4 hp4 => ?_)
        walk_at "rd"
        show tTupRg (tRg1 _) _ _ _
        refine r_tupRgN (n := n) (by omega) (fun p5 hp5 => ?_) (fun R hR => ?_)
        rotate_left
        · walk_at "rd"
          exact hR
        walk_at "rd"
        refine ⟨ln1, fun p6 hp6 => ?_⟩
        have t4 := same_new (o := .lst (refsV ps ++ refsV ps)) hp4
        have t5 := same_new (o := .tup ((List.range n).map iV)) hp5
        have t6 := same_new (o := .lst [V.ref p5]) hp6
        refine r_cat ((t5.trans t6) _ _ upd_same) upd_same (by rw [List.length_append]; show (ps.map _).length + (ps.map _).length + 1 ≤ _; rw [List.length_map]; omega) (fun p8 hp8 => ?_)
        have t8 := same_new (o := .lst (refsV ps ++ refsV ps ++ [V.ref p5])) hp8
        have sC := t4.trans (t5.trans (t6.trans t8))
        walk_at "rd1"
        refine key _ _ ⟨sB.trans sC, p8, ps ++ ps ++ [(p5, idN n)], rfl, ?_, ?_, ?_, ?_⟩
        · rw [upd_same]
          unfold refsV
          rw [List.map_append, List.map_append]
          rfl
        · refine TupR.snoc (fun p hp => ?_) ((t6.trans t8) _ _ upd_same)
          rcases List.mem_append.mp hp with hp | hp
          · exact sC _ _ (hT p hp)
          · exact sC _ _ (hT p hp)
        · intro p hp
          rcases List.mem_append.mp hp with hp | hp
          · rcases List.mem_append.mp hp with hp | hp
            · exact hP p hp
            · exact hP p hp
          · rw [List.mem_singleton.mp hp]
            exact Perm.id n
        · rw [List.length_append, List.length_append]
          show ps.length + ps.length + 1 ≤ 5
          omega
      · exact key _ _ ⟨sB, pp, ps, rfl, hL, hT, hP, by omega⟩
    clear b1 b2 b3 hL hT hP l2 hN3 sB pp ps
    obtain ⟨sB, pp, ps, rfl, hL, hT, hP, l5⟩ := hJ
    have hN3 := sB _ _ hN2
    obtain ⟨b1, b2, b3⟩ := small_bnd (ps := ps) n6 hP
    with_reducible refine r_cutJ (fun σ G => Same H2 G ∧ ∃ (n : Nat) (pp : Addr) (ps : List (Addr × List Nat)) (L : List (List Nat)) (B : Nat), σ = [some (.ref l), some (.ref pn), some (iV n), some (.ref pp), none, none, none, none, none, none, none, none] ∧ G pp = some (.lst (refsV ps)) ∧ TupR G ps ∧ Bnd n (ps.map (·.2)) L B ∧ B ≤ 999 ∧ B ≤ Builtin.Math.factorialNat n ∧ 1 ≤ n ∧ n ≤ 64 ∧ ps.length ≤ 5) (fun σ G hJ => ?_) (fun key => ?_)
    rotate_left
    · walk_at "rd"
      refine r_ixL (SqL.of hN3) (at_int (by decide) (by omega)) ?_
      walk_at "rd"
      refine r_iteD (fun e1 => ?_) (fun e1 => ?_)
      · walk_at "rd"
        refine r_ixL (SqL.of hN3) (at_int (by decide) (by omega)) ?_
        walk_at "rd"
        obtain ⟨m, em, m7, m12⟩ : ∃ m : Nat, 7 + ns.getD (0 : Int).toNat 0 % 6 = (m : Int) ∧ 7 ≤ m ∧ m ≤ 12 := by
          have := emod_rng (ns.getD (0 : Int).toNat 0) (b := 6) (by decide)
          exact ⟨(7 + ns.getD (0 : Int).toNat 0 % 6).toNat, by omega, by omega, by omega⟩
        rw [em]
        have hm0 : (0 : Int) < (m : Int) := by omega
        refine r_rng1' (by omega) (by omega) ?_
        rw [Int.toNat_natCast]
        intro D hD
        refine lc_range (lo := 0) (n := m) (fun j G2 => Same G G2 ∧ G2 D = some (.lst (((List.range j).map fun k => (k + 1) % m).map iV))) ⟨same_new hD, by rw [upd_same]; rfl⟩ (fun j G2 hj hQ => ?_) (fun G2 hQ => ?_)
        · obtain ⟨sG, hG⟩ := hQ
          refine ⟨rfl, r_yes (iteT ?_)⟩
          walk_at "rd"
          have em2 : (0 + (j : Int) + 1) % (m : Int) = (((j + 1) % m : Nat) : Int) := by
            rw [Int.natCast_emod, Int.zero_add]
            rfl
          refine ⟨_, hG, by rw [List.length_map, List.length_map, List.length_range]; omega, same_mut sG hD, ?_⟩
          rw [upd_same, List.range_succ, List.map_append, List.map_append, em2]
          rfl
        obtain ⟨sG, hG⟩ := hQ
        have hG2 : G2 D = some (.lst ((rot m 1).map iV)) := hG
        walk_at "rd"
        refine r_tupL (SqL.of hG2) (fun t ht => ?_)
        have s1 := sG.trans (same_new (o := .tup ((rot m 1).map iV)) ht)
        have hW : (upd G2 t (.tup ((rot m 1).map iV))) t = _ := upd_same
        walk_at "rd"
        refine ⟨ln1, fun pr hpr => ?_⟩
        walk_at "rd1"
        have s4 := same_new (o := .lst [V.ref t]) hpr
        exact key _ _ ⟨sB.trans (s1.trans s4), m, pr, [(t, rot m 1)], _, m, rfl, upd_same, (fun p hp => by rw [List.mem_singleton.mp hp]; exact s4 _ _ hW), bnd_wheel (by omega), by omega, by have := (fact_ok m (by omega)).2.2 m7; omega, by omega, by omega, by show 1 ≤ 5; decide⟩
      · exact key _ _ ⟨sB, n, pp, ps, _, _, rfl, hL, hT, b1, b2, b3, n1, n64, l5⟩
    clear b1 b2 b3 hL hT hP l5 hN3 sB pp ps n1 n6 n64 n
    obtain ⟨sB, n, pp, ps, L, B, rfl, hL, hT, b1, b2, b3, n1, n64, l5⟩ := hJ
    have hN3 := sB _ _ hN2
    with_reducible refine r_cutJ (fun σ G => Same H2 G ∧ ∃ (n : Nat) (pp : Addr) (ps : List (Addr × List Nat)) (L : List (List Nat)) (B : Nat) (y4 y5 y6 y7 : Option V), σ = [some (.ref l), some (.ref pn), some (iV n), some (.ref pp), y4, y5, y6, y7, none, none, none, none] ∧ G pp = some (.lst (refsV ps)) ∧ TupR G ps ∧ Bnd n (ps.map (·.2)) L B ∧ B ≤ 999 ∧ B ≤ Builtin.Math.factorialNat n ∧ 1 ≤ n ∧ n ≤ 64 ∧ ps.length ≤ 5) (fun σ G hJ => ?_) (fun key => ?_)
    rotate_left
    · walk_at "rd"
      refine r_ixL (SqL.of hN3) (at_int (by decide) (by omega)) ?_
      walk_at "rd"
      refine r_iteD (fun e1 => ?_) (fun e1 => ?_)
      · walk_at "rd"
        refine r_ixL (SqL.of hN3) (at_int (by decide) (by omega)) ?_
        walk_at "rd"
        refine r_ixL (SqL.of hN3) (at_int (by decide) (by omega)) ?_
        walk_at "rd"
        obtain ⟨f, ef, f7, f11⟩ : ∃ f : Nat, 7 + ns.getD (0 : Int).toNat 0 % 5 = (f : Int) ∧ 7 ≤ f ∧ f ≤ 11 := by
          have := emod_rng (ns.getD (0 : Int).toNat 0) (b := 5) (by decide)
          exact ⟨(7 + ns.getD (0 : Int).toNat 0 % 5).toNat, by omega, by omega, by omega⟩
        obtain ⟨o, eo, o12, o53⟩ : ∃ o : Nat, 12 + ns.getD (2 : Int).toNat 0 % 42 = (o : Int) ∧ 12 ≤ o ∧ o ≤ 53 := by
          have := emod_rng (ns.getD (2 : Int).toNat 0) (b := 42) (by decide)
          exact ⟨(12 + ns.getD (2 : Int).toNat 0 % 42).toNat, by omega, by omega, by omega⟩
        rw [ef, eo]
        have hf0 : (0 : Int) < (f : Int) := by omega
        have ho0 : (0 : Int) < (o : Int) := by omega
        refine r_rng1' (by omega) (by omega) ?_
        rw [Int.toNat_natCast]
        intro D hD
        refine lc_range (lo := 0) (n := f) (fun j G2 => Same G G2 ∧ G2 D = some (.lst (((List.range j).map fun k => (k + 1) % f).map iV))) ⟨same_new hD, by rw [upd_same]; rfl⟩ (fun j G2 hj hQ => ?_) (fun G2 hQ => ?_)
        · obtain ⟨sG, hG⟩ := hQ
          refine ⟨rfl, r_yes (iteT ?_)⟩
          walk_at "rd"
          have em2 : (0 + (j : Int) + 1) % (f : Int) = (((j + 1) % f : Nat) : Int) := by
            rw [Int.natCast_emod, Int.zero_add]
            rfl
          refine ⟨_, hG, by rw [List.length_map, List.length_map, List.length_range]; omega, same_mut sG hD, ?_⟩
          rw [upd_same, List.range_succ, List.map_append, List.map_append, em2]
          rfl
        obtain ⟨sG, hG⟩ := hQ
        have hG2 : G2 D = some (.lst ((rot f 1).map iV)) := hG
        walk_at "rd"
        refine r_tupL (SqL.of hG2) (fun t1 ht1 => ?_)
        have u1 := sG.trans (same_new (o := .tup ((rot f 1).map iV)) ht1)
        have hA1 : (upd G2 t1 (.tup ((rot f 1).map iV))) t1 = _ := upd_same
        clear sG hG hG2 hD ht1
        generalize upd G2 t1 (.tup ((rot f 1).map iV)) = G3 at *
        walk_at "rd"
        show tTupRg (tRg2 _ _) _ _ _
        refine r_tupRg2N (f := f) (o := o) (by omega) (fun t2 ht2 => ?_) (fun R hR => ?_)
        rotate_left
        · walk_at "rd"
          exact hR
        have u2 := same_new (o := .tup ((List.range o).map fun k => iV (f + k))) ht2
        refine ⟨t1, t2, _, _, rfl, rfl, SqT.of (u2 _ _ hA1), SqT.of upd_same, ?_, ?_, fun e => ?_, fun _ t3 ht3 => ?_⟩
        · intro e
          have := congrArg List.length e
          rw [List.length_map, rot_len] at this
          have h0 : f = 0 := this
          omega
        · rw [List.length_map, rot_len, List.length_map, List.length_range]
          omega
        · have := congrArg List.length e
          rw [List.length_map, List.length_range] at this
          have h0 : o = 0 := this
          omega
        rw [one_two]
        have u3 := u1.trans (u2.trans (same_new (o := .tup ((rot2 f o 1 0).map iV)) ht3))
        have hB1 : (upd (upd G3 t2 (.tup ((List.range o).map fun k => iV (f + k)))) t3 (.tup ((rot2 f o 1 0).map iV))) t3 = _ := upd_same
        clear hA1 u1 u2 ht2 ht3
        generalize upd (upd G3 t2 (.tup ((List.range o).map fun k => iV (f + k)))) t3 (.tup ((rot2 f o 1 0).map iV)) = G4 at *
        walk_at "rd"
        show tTupRg (tRg1 _) _ _ _
        refine r_tupRgN (n := f) (by omega) (fun t4 ht4 => ?_) (fun R hR => ?_)
        rotate_left
        · walk_at "rd"
          exact hR
        have u4 := same_new (o := .tup ((List.range f).map iV)) ht4
        have hA4 : (upd G4 t4 (.tup ((List.range f).map iV))) t4 = _ := upd_same
        have hB4 := u4 _ _ hB1
        have u5 := u3.trans u4
        clear ht4 u4 hB1 u3
        generalize upd G4 t4 (.tup ((List.range f).map iV)) = G5 at *
        walk_at "rd"
        refine r_rng1' (by omega) (by omega) ?_
        rw [Int.toNat_natCast]
        intro D2 hD2
        refine lc_range (lo := 0) (n := o) (fun j G2 => Same G5 G2 ∧ G2 D2 = some (.lst (((List.range j).map fun k => f + (k + 1) % o).map iV))) ⟨same_new hD2, by rw [upd_same]; rfl⟩ (fun j G2 hj hQ => ?_) (fun G2 hQ => ?_)
        · obtain ⟨sG, hG⟩ := hQ
          refine ⟨rfl, r_yes (iteT ?_)⟩
          walk_at "rd"
          have em2 : (0 + (j : Int) + 1) % (o : Int) = (((j + 1) % o : Nat) : Int) := by
            rw [Int.natCast_emod, Int.zero_add]
            rfl
          refine ⟨_, hG, by rw [List.length_map, List.length_map, List.length_range]; omega, same_mut sG hD2, ?_⟩
          rw [upd_same, List.range_succ, List.map_append, List.map_append, em2]
          rfl
        obtain ⟨sG, hG⟩ := hQ
        walk_at "rd"
        refine r_tupL (SqL.of hG) (fun t5 ht5 => ?_)
        have u6 := sG.trans (same_new (o := .tup (((List.range o).map fun k => f + (k + 1) % o).map iV)) ht5)
        refine ⟨t4, t5, _, _, rfl, rfl, SqT.of (u6 _ _ hA4), SqT.of upd_same, ?_, ?_, fun e => ?_, fun _ t6 ht6 => ?_⟩
        · intro e
          have := congrArg List.length e
          rw [List.length_map, List.length_range] at this
          have h0 : f = 0 := this
          omega
        · rw [List.length_map, List.length_range, List.length_map, List.length_map, List.length_range]
          omega
        · have := congrArg List.length e
          rw [List.length_map, List.length_map, List.length_range] at this
          have h0 : o = 0 := this
          omega
        rw [two_two]
        have u7 := same_new (o := .tup ((rot2 f o 0 1).map iV)) ht6
        walk_at "rd"
        refine ⟨ln2, fun pr hpr => ?_⟩
        walk_at "rd1"
        have u8 := same_new (o := .lst [V.ref t3, V.ref t6]) hpr
        have hfo : f * o ≤ 583 := Nat.le_trans (Nat.mul_le_mul f11 o53) (by decide)
        have hfc := (fact_ok (f + o) (by omega)).2.2 (by omega)
        refine key _ _ ⟨sB.trans (u5.trans (u6.trans (u7.trans u8))), f + o, pr, [(t3, rot2 f o 1 0), (t6, rot2 f o 0 1)], _, f * o, _, _, _, _, rfl, upd_same, (fun p hp => ?_), bnd_two (by omega) (by omega), by omega, by omega, by omega, by omega, by show 2 ≤ 5; decide⟩
        rcases List.mem_cons.mp hp with rfl | hp
        · exact u8 _ _ (u7 _ _ (u6 _ _ hB4))
        · rw [List.mem_singleton.mp hp]
          exact u8 _ _ upd_same
      · exact key _ _ ⟨sB, n, pp, ps, L, B, _, _, _, _, rfl, hL, hT, b1, b2, b3, n1, n64, l5⟩
    clear b1 b2 b3 hL hT l5 hN3 sB pp ps n1 n64 n L B
    obtain ⟨sB, n, pp, ps, L, B, y4, y5, y6, y7, rfl, hL, hT, b1, b2, b3, n1, n64, l5⟩ := hJ
    walk_at "rd"
    refine r_lstL (SqL.of hL) (fun ph hph => ?_)
    have v1 := same_new (o := .lst (refsV ps)) hph
    have hH1 : (upd G ph (.lst (refsV ps))) ph = _ := upd_same
    have hT1 := hT.k v1
    have hL1 := v1 _ _ hL
    clear hT hL hph v1
    generalize upd G ph (.lst (refsV ps)) = G1 at *
    walk_at "rd"
    refine ⟨n, pp, ps, L, B, rfl, SqL.of hL1, (fun p hp => SqT.of (hT1 p hp)), b1, n1, n64, b2, fun G2 pd zs1 s2 _ hd1 tz1 sz1 hg1 => ?_⟩
    walk_at "rd"
    refine ⟨n, ph, ps, L, B, rfl, SqL.of (s2 _ _ hH1), hT1.k s2, b1, n1, n64, b2, b3, by omega, fun G3 pt zs2 s3 hpt hd2 tz2 sz2 hg2 => ?_⟩
    have hgp := hg2.perm hg1
    have same_rows : ∀ {zs zs' : List (Addr × List Nat)}, sortedR zs → sortedR zs' → Group n (ps.map (·.2)) (zs.map (·.2)) → Group n (ps.map (·.2)) (zs'.map (·.2)) → zs.map (·.2) = zs'.map (·.2) := fun h1 h2 g1 g2 =>
      sort_uniq (g1.perm g2) (List.pairwise_map.mpr h1) (List.pairwise_map.mpr h2)
    have fit : fits 4 (.list ((zs1.map (·.2)).map rowD)) := by
      have hle := b1.le (fun m hm => hm) hg1.nd fun x hx => (hg1.all x).mp hx
      refine ⟨by rw [List.length_map]; omega, fun d hd => ?_⟩
      obtain ⟨r, hm, rfl⟩ := List.mem_map.mp hd
      have := (((hg1.all r).mp hm).row b1.rows).1
      exact fits_row 1 (by omega)
    walk_at "rd"
    refine ⟨.ref pt, .ref pd, _, rfl, ?_, dp_rows (ps := zs1) (SqL.of (s3 _ _ hd1)) (fun p hp => SqT.of (s3 _ _ (tz1 p hp))), fit, ?_⟩
    · rw [← same_rows sz2 sz1 hg2 hg1]
      exact dp_rows (ps := zs2) (SqL.of hd2) fun p hp => SqT.of (tz2 p hp)
    walk_at "rd"
    have s23 := s2.trans s3
    have hT3 := hT1.k s23
    refine r_neD (dp_rows (ps := ps) (SqL.of (s23 _ _ hH1)) fun p hp => SqT.of (hT3 p hp)) (dp_rows (ps := ps) (SqL.of (s23 _ _ hL1)) fun p hp => SqT.of (hT3 p hp)) (shaped_rows _) (shaped_rows _) ?_
    rw [eqv_lrows, decide_eq_true rfl]
    walk_at "rd"
    refine ⟨_, rfl, ty_l (SqL.of hd2), ?_⟩
    refine ⟨pt, _, rfl, rfl, hd2, ?_⟩
    have s4 := same_mut (o := .lst []) s3 hpt
    generalize upd G3 pt (.lst []) = G4 at *
    walk_at "rd"
    have s24 := s2.trans s4
    refine ⟨n, ph, ps, L, B, rfl, SqL.of (s24 _ _ hH1), hT1.k s24, b1, n1, n64, b2, b3, by omega, fun G5 pt2 zs3 s5 _ hd3 tz3 sz3 hg3 => ?_⟩
    walk_at "rd"
    have s45 := s4.trans s5
    refine ⟨.ref pt2, .ref pd, _, rfl, ?_, dp_rows (ps := zs1) (SqL.of (s45 _ _ hd1)) (fun p hp => SqT.of (s45 _ _ (tz1 p hp))), fit, q _⟩
    rw [← same_rows sz3 sz1 hg3 hg1]
    exact dp_rows (ps := zs3) (SqL.of hd3) fun p hp => SqT.of (tz3 p hp)
end

theorem all_mk {l : PySem.W.OpenLaw} {w : World} {K : PySem.W.Frag} {h : Heap} {mg : Str → Option Value} {fa : Addr} (X : K.In h) (G : h.Ns mainGlobals mg) (hfa : mg "law" = some (.ref fa))
    {f0 : Addr} {od0 an0 : Option Addr} {sl0 : Array (Option Value)} {oc0 kV0 dc0 pm0 cd0 ct0 : Value}
    (a0 : PySem.W.nsIn K mainGlobals "_law_cell" = some (some (.ref f0))) (l0 : K.lookup f0 = some ⟨oc0, od0, .func (PySem.W.fnOf "_law_cell" "_law_cell" (defArgs s_l_cell) (defBody s_l_cell) (defScope s_l_cell) .none kV0 dc0 pm0 an0 cd0 ct0), sl0⟩) (c0 : PySem.W.codeIn K cd0 "_law_cell" = true) (k0 : PySem.W.keepIn K (.ref f0) = true)
    {f1 : Addr} {od1 an1 : Option Addr} {sl1 : Array (Option Value)} {oc1 kV1 dc1 pm1 cd1 ct1 : Value}
    (a1 : PySem.W.nsIn K mainGlobals "_law_numbers" = some (some (.ref f1))) (l1 : K.lookup f1 = some ⟨oc1, od1, .func (PySem.W.fnOf "_law_numbers" "_law_numbers" (defArgs s_l_numbers) (defBody s_l_numbers) (defScope s_l_numbers) .none kV1 dc1 pm1 an1 cd1 ct1), sl1⟩) (c1 : PySem.W.codeIn K cd1 "_law_numbers" = true) (k1 : PySem.W.keepIn K (.ref f1) = true)
    {f2 : Addr} {od2 an2 : Option Addr} {sl2 : Array (Option Value)} {oc2 kV2 dc2 pm2 cd2 ct2 : Value}
    (a2 : PySem.W.nsIn K mainGlobals "_law_same" = some (some (.ref f2))) (l2 : K.lookup f2 = some ⟨oc2, od2, .func (PySem.W.fnOf "_law_same" "_law_same" (defArgs s_l_same) (defBody s_l_same) (defScope s_l_same) .none kV2 dc2 pm2 an2 cd2 ct2), sl2⟩) (c2 : PySem.W.codeIn K cd2 "_law_same" = true) (k2 : PySem.W.keepIn K (.ref f2) = true)
    {f3 : Addr} {od3 an3 : Option Addr} {sl3 : Array (Option Value)} {oc3 kV3 dc3 pm3 cd3 ct3 : Value}
    (a3 : PySem.W.nsIn K mainGlobals "then" = some (some (.ref f3))) (l3 : K.lookup f3 = some ⟨oc3, od3, .func (PySem.W.fnOf "then" "then" (defArgs s_then) (defBody s_then) (defScope s_then) .none kV3 dc3 pm3 an3 cd3 ct3), sl3⟩) (c3 : PySem.W.codeIn K cd3 "then" = true) (k3 : PySem.W.keepIn K (.ref f3) = true)
    {f4 : Addr} {od4 an4 : Option Addr} {sl4 : Array (Option Value)} {oc4 kV4 dc4 pm4 cd4 ct4 : Value}
    (a4 : PySem.W.nsIn K mainGlobals "_law_then" = some (some (.ref f4))) (l4 : K.lookup f4 = some ⟨oc4, od4, .func (PySem.W.fnOf "_law_then" "_law_then" (defArgs s_l_then) (defBody s_l_then) (defScope s_l_then) .none kV4 dc4 pm4 an4 cd4 ct4), sl4⟩) (c4 : PySem.W.codeIn K cd4 "_law_then" = true) (k4 : PySem.W.keepIn K (.ref f4) = true)
    {f5 : Addr} {od5 an5 : Option Addr} {sl5 : Array (Option Value)} {oc5 kV5 dc5 pm5 cd5 ct5 : Value}
    (a5 : PySem.W.nsIn K mainGlobals "_law_permutation" = some (some (.ref f5))) (l5 : K.lookup f5 = some ⟨oc5, od5, .func (PySem.W.fnOf "_law_permutation" "_law_permutation" (defArgs s_l_permutation) (defBody s_l_permutation) (defScope s_l_permutation) .none kV5 dc5 pm5 an5 cd5 ct5), sl5⟩) (c5 : PySem.W.codeIn K cd5 "_law_permutation" = true) (k5 : PySem.W.keepIn K (.ref f5) = true)
    {f6 : Addr} {od6 an6 : Option Addr} {sl6 : Array (Option Value)} {oc6 kV6 dc6 pm6 cd6 ct6 : Value}
    (a6 : PySem.W.nsIn K mainGlobals "products" = some (some (.ref f6))) (l6 : K.lookup f6 = some ⟨oc6, od6, .func (PySem.W.fnOf "products" "products" (defArgs s_products) (defBody s_products) (defScope s_products) .none kV6 dc6 pm6 an6 cd6 ct6), sl6⟩) (c6 : PySem.W.codeIn K cd6 "products" = true) (k6 : PySem.W.keepIn K (.ref f6) = true)
    {f7 : Addr} {od7 an7 : Option Addr} {sl7 : Array (Option Value)} {oc7 kV7 dc7 pm7 cd7 ct7 : Value}
    (a7 : PySem.W.nsIn K mainGlobals "grown" = some (some (.ref f7))) (l7 : K.lookup f7 = some ⟨oc7, od7, .func (PySem.W.fnOf "grown" "grown" (defArgs s_grown) (defBody s_grown) (defScope s_grown) .none kV7 dc7 pm7 an7 cd7 ct7), sl7⟩) (c7 : PySem.W.codeIn K cd7 "grown" = true) (k7 : PySem.W.keepIn K (.ref f7) = true)
    {f8 : Addr} {od8 an8 : Option Addr} {sl8 : Array (Option Value)} {oc8 kV8 dc8 pm8 cd8 ct8 : Value}
    (a8 : PySem.W.nsIn K mainGlobals "generated" = some (some (.ref f8))) (l8 : K.lookup f8 = some ⟨oc8, od8, .func (PySem.W.fnOf "generated" "generated" (defArgs s_generated) (defBody s_generated) (defScope s_generated) .none kV8 dc8 pm8 an8 cd8 ct8), sl8⟩) (c8 : PySem.W.codeIn K cd8 "generated" = true) (k8 : PySem.W.keepIn K (.ref f8) = true)
    {f9 : Addr} {od9 an9 : Option Addr} {sl9 : Array (Option Value)} {oc9 kV9 dc9 pm9 cd9 ct9 : Value}
    (a9 : PySem.W.nsIn K mainGlobals "_law_closed" = some (some (.ref f9))) (l9 : K.lookup f9 = some ⟨oc9, od9, .func (PySem.W.fnOf "_law_closed" "_law_closed" (defArgs s_l_closed) (defBody s_l_closed) (defScope s_l_closed) .none kV9 dc9 pm9 an9 cd9 ct9), sl9⟩) (c9 : PySem.W.codeIn K cd9 "_law_closed" = true) (k9 : PySem.W.keepIn K (.ref f9) = true)
    {f10 : Addr} {od10 an10 : Option Addr} {sl10 : Array (Option Value)} {oc10 kV10 dc10 pm10 cd10 ct10 : Value}
    (a10 : PySem.W.nsIn K mainGlobals "_law_generators" = some (some (.ref f10))) (l10 : K.lookup f10 = some ⟨oc10, od10, .func (PySem.W.fnOf "_law_generators" "_law_generators" (defArgs s_l_generators) (defBody s_l_generators) (defScope s_l_generators) .none kV10 dc10 pm10 an10 cd10 ct10), sl10⟩) (c10 : PySem.W.codeIn K cd10 "_law_generators" = true) (k10 : PySem.W.keepIn K (.ref f10) = true)
    {f11 : Addr} {od11 an11 : Option Addr} {sl11 : Array (Option Value)} {oc11 kV11 dc11 pm11 cd11 ct11 : Value}
    (a11 : PySem.W.nsIn K mainGlobals "law" = some (some (.ref f11))) (l11 : K.lookup f11 = some ⟨oc11, od11, .func (PySem.W.fnOf "law" "law" (defArgs s_law) (defBody s_law) (defScope s_law) .none kV11 dc11 pm11 an11 cd11 ct11), sl11⟩) (c11 : PySem.W.codeIn K cd11 "law" = true) (k11 : PySem.W.keepIn K (.ref f11) = true)
    (z_bool : PySem.W.nsIn K mainGlobals "bool" = some none)
    (z_int : PySem.W.nsIn K mainGlobals "int" = some none)
    (z_isinstance : PySem.W.nsIn K mainGlobals "isinstance" = some none)
    (z_len : PySem.W.nsIn K mainGlobals "len" = some none)
    (z_list : PySem.W.nsIn K mainGlobals "list" = some none)
    (z_range : PySem.W.nsIn K mainGlobals "range" = some none)
    (z_sorted : PySem.W.nsIn K mainGlobals "sorted" = some none)
    (z_str : PySem.W.nsIn K mainGlobals "str" = some none)
    (z_tuple : PySem.W.nsIn K mainGlobals "tuple" = some none)
    (m_factorial : PySem.W.nsIn K mainGlobals "factorial" = some (some (.builtin "math.factorial")))
    : ∃ fd : FuncData, (∀ (s : Shared) (v : Value), BindsTo s fd ⟨[v], []⟩ [("script", v)]) ∧ ∀ base : Heap, K.In base → base.Ns mainGlobals mg → FnOk l.prog w K mg base CX0 5 fa fd ["script"] (sp_law K) := by
  have e := hfa.symm.trans (PySem.W.mg_of X G a11)
  cases e
  have F0 := fun_mk (st := s_l_cell) l0 c0 k0
  have b0 := F0.binds (ps := ["script", "k"]) fun _ _ _ _ _ _ us hl => match us, hl with | [_, _], _ => rfl
  have F1 := fun_mk (st := s_l_numbers) l1 c1 k1
  have b1 := F1.binds (ps := ["cell", "count"]) fun _ _ _ _ _ _ us hl => match us, hl with | [_, _], _ => rfl
  have F2 := fun_mk (st := s_l_same) l2 c2 k2
  have b2 := F2.binds (ps := ["actual", "due"]) fun _ _ _ _ _ _ us hl => match us, hl with | [_, _], _ => rfl
  have F3 := fun_mk (st := s_then) l3 c3 k3
  have b3 := F3.binds (ps := ["p", "q"]) fun _ _ _ _ _ _ us hl => match us, hl with | [_, _], _ => rfl
  have F4 := fun_mk (st := s_l_then) l4 c4 k4
  have b4 := F4.binds (ps := ["p", "q"]) fun _ _ _ _ _ _ us hl => match us, hl with | [_, _], _ => rfl
  have F5 := fun_mk (st := s_l_permutation) l5 c5 k5
  have b5 := F5.binds (ps := ["numbers", "places"]) fun _ _ _ _ _ _ us hl => match us, hl with | [_, _], _ => rfl
  have F6 := fun_mk (st := s_products) l6 c6 k6
  have b6 := F6.binds (ps := ["places", "makers", "most"]) fun _ _ _ _ _ _ us hl => match us, hl with | [_, _, _], _ => rfl
  have F7 := fun_mk (st := s_grown) l7 c7 k7
  have b7 := F7.binds (ps := ["places", "permutations", "most"]) fun _ _ _ _ _ _ us hl => match us, hl with | [_, _, _], _ => rfl
  have F8 := fun_mk (st := s_generated) l8 c8 k8
  have b8 := F8.binds (ps := ["places", "permutations"]) fun _ _ _ _ _ _ us hl => match us, hl with | [_, _], _ => rfl
  have F9 := fun_mk (st := s_l_closed) l9 c9 k9
  have b9 := F9.binds (ps := ["places", "permutations"]) fun _ _ _ _ _ _ us hl => match us, hl with | [_, _], _ => rfl
  have F10 := fun_mk (st := s_l_generators) l10 c10 k10
  have b10 := F10.binds (ps := ["numbers", "places"]) fun _ _ _ _ _ _ us hl => match us, hl with | [_, _], _ => rfl
  have F11 := fun_mk (st := s_law) l11 c11 k11
  have b11 := F11.binds (ps := ["script"]) fun _ _ _ _ _ _ us hl => match us, hl with | [_], _ => rfl
  have T : Txt K mg ⟨f0, PySem.W.fnOf "_law_cell" "_law_cell" (defArgs s_l_cell) (defBody s_l_cell) (defScope s_l_cell) .none kV0 dc0 pm0 an0 cd0 ct0, f1, PySem.W.fnOf "_law_numbers" "_law_numbers" (defArgs s_l_numbers) (defBody s_l_numbers) (defScope s_l_numbers) .none kV1 dc1 pm1 an1 cd1 ct1, f2, PySem.W.fnOf "_law_same" "_law_same" (defArgs s_l_same) (defBody s_l_same) (defScope s_l_same) .none kV2 dc2 pm2 an2 cd2 ct2, f3, PySem.W.fnOf "then" "then" (defArgs s_then) (defBody s_then) (defScope s_then) .none kV3 dc3 pm3 an3 cd3 ct3, f4, PySem.W.fnOf "_law_then" "_law_then" (defArgs s_l_then) (defBody s_l_then) (defScope s_l_then) .none kV4 dc4 pm4 an4 cd4 ct4, f5, PySem.W.fnOf "_law_permutation" "_law_permutation" (defArgs s_l_permutation) (defBody s_l_permutation) (defScope s_l_permutation) .none kV5 dc5 pm5 an5 cd5 ct5, f6, PySem.W.fnOf "products" "products" (defArgs s_products) (defBody s_products) (defScope s_products) .none kV6 dc6 pm6 an6 cd6 ct6, f7, PySem.W.fnOf "grown" "grown" (defArgs s_grown) (defBody s_grown) (defScope s_grown) .none kV7 dc7 pm7 an7 cd7 ct7, f8, PySem.W.fnOf "generated" "generated" (defArgs s_generated) (defBody s_generated) (defScope s_generated) .none kV8 dc8 pm8 an8 cd8 ct8, f9, PySem.W.fnOf "_law_closed" "_law_closed" (defArgs s_l_closed) (defBody s_l_closed) (defScope s_l_closed) .none kV9 dc9 pm9 an9 cd9 ct9, f10, PySem.W.fnOf "_law_generators" "_law_generators" (defArgs s_l_generators) (defBody s_l_generators) (defScope s_l_generators) .none kV10 dc10 pm10 an10 cd10 ct10, fa, PySem.W.fnOf "law" "law" (defArgs s_law) (defBody s_law) (defScope s_law) .none kV11 dc11 pm11 an11 cd11 ct11⟩ := ⟨F0, b0, PySem.W.mg_of X G a0, F1, b1, PySem.W.mg_of X G a1, F2, b2, PySem.W.mg_of X G a2, F3, b3, PySem.W.mg_of X G a3, F4, b4, PySem.W.mg_of X G a4, F5, b5, PySem.W.mg_of X G a5, F6, b6, PySem.W.mg_of X G a6, F7, b7, PySem.W.mg_of X G a7, F8, b8, PySem.W.mg_of X G a8, F9, b9, PySem.W.mg_of X G a9, F10, b10, PySem.W.mg_of X G a10, F11, b11, PySem.W.mg_of X G a11, PySem.W.mg_none_of X G z_bool, PySem.W.mg_none_of X G z_int, PySem.W.mg_none_of X G z_isinstance, PySem.W.mg_none_of X G z_len, PySem.W.mg_none_of X G z_list, PySem.W.mg_none_of X G z_range, PySem.W.mg_none_of X G z_sorted, PySem.W.mg_none_of X G z_str, PySem.W.mg_none_of X G z_tuple, PySem.W.mg_of X G m_factorial⟩
  exact ⟨_, fun s v => .of_eq rfl, fun base _ _ => ok_law T⟩
end L17
open PySem PySem.W PyProof.Rows
set_option maxHeartbeats 0 in
theorem PySem.Challenge.cw_turnsandthrows_k17_generated_holds : PySem.Challenge.rw_turnsandthrows_k17_generated.Holds := by
  w_on; o_law; k_head; (case hw => w_witness2)
  k_fill
  refine L2.walk_of (l := PySem.Challenge.rw_turnsandthrows_k17_generated) (n := 63) (k := 5) (x := "script") (CX := fun _ => L2.CX0) (sp := fun w => L17.sp_law _) rfl (by decide) rfl ⟨rfl, by decide, by decide⟩ (fun w h Y => PySem.W.kIn_of Y) ?F (fun _ _ a ns hl _ hS => ⟨a, ns, rfl, hS, hl, fun _ => rfl⟩) (fun _ _ _ _ _ h => h)
  case F =>
    intro w mg fa h KX G hmg
    refine' L17.all_mk KX G hmg ?a0 ?l0 ?c0 ?k0 ?a1 ?l1 ?c1 ?k1 ?a2 ?l2 ?c2 ?k2 ?a3 ?l3 ?c3 ?k3 ?a4 ?l4 ?c4 ?k4 ?a5 ?l5 ?c5 ?k5 ?a6 ?l6 ?c6 ?k6 ?a7 ?l7 ?c7 ?k7 ?a8 ?l8 ?c8 ?k8 ?a9 ?l9 ?c9 ?k9 ?a10 ?l10 ?c10 ?k10 ?a11 ?l11 ?c11 ?k11 ?z_bool ?z_int ?z_isinstance ?z_len ?z_list ?z_range ?z_sorted ?z_str ?z_tuple ?m_factorial
    (case a0 => k_is); (case l0 => k_is); (case c0 => k_is); (case k0 => k_is); (case a1 => k_is); (case l1 => k_is); (case c1 => k_is); (case k1 => k_is); (case a2 => k_is); (case l2 => k_is); (case c2 => k_is); (case k2 => k_is); (case a3 => k_is); (case l3 => k_is); (case c3 => k_is); (case k3 => k_is); (case a4 => k_is); (case l4 => k_is); (case c4 => k_is); (case k4 => k_is); (case a5 => k_is); (case l5 => k_is); (case c5 => k_is); (case k5 => k_is); (case a6 => k_is); (case l6 => k_is); (case c6 => k_is); (case k6 => k_is); (case a7 => k_is); (case l7 => k_is); (case c7 => k_is); (case k7 => k_is); (case a8 => k_is); (case l8 => k_is); (case c8 => k_is); (case k8 => k_is); (case a9 => k_is); (case l9 => k_is); (case c9 => k_is); (case k9 => k_is); (case a10 => k_is); (case l10 => k_is); (case c10 => k_is); (case k10 => k_is); (case a11 => k_is); (case l11 => k_is); (case c11 => k_is); (case k11 => k_is); (case z_bool => k_is); (case z_int => k_is); (case z_isinstance => k_is); (case z_len => k_is); (case z_list => k_is); (case z_range => k_is); (case z_sorted => k_is); (case z_str => k_is); (case z_tuple => k_is); (case m_factorial => k_is)

