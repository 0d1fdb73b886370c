import PyProof.Rows.All
import Wide.All
import OpenK.AllK
import Wide.FinOn
import HandS.ForMost
import HandS.IsInst
import KE.GoesMore
import PyProof.Draws
import PyProof.EnumMake
import HandS.Iter
import HandS.Gcd
import HandS.Strs
import KE.KSortTupG
import KE.KDictDisplayH
import KE.KDictSum
import HandS.Keys
import HandS.Conv
import HandS.Dict
import HandS.More
import KE.KMathG
import HandS.TupLen
import PyProof.StrBlock2
import HandS.Replace
import PySem.Challenge.RW_turnsandthrows_k40_piece_machine
set_option Elab.async false
set_option linter.all false
set_option maxRecDepth 100000
set_option maxHeartbeats 8000000
set_option Elab.async false
set_option linter.all false
set_option maxRecDepth 100000
namespace G
open PySem PySem.Spec PyProof.Rows L2

/-! ### readings, step by step -/
section
variable {σ : L2.St} {H : Hp} {Q : VK} {QB : Bool → Hp → Prop} {QA : List V → Hp → Prop} {D : Ends} {K : PySem.W.Frag} {te ta tb : TE} {t u : TS} {c c2 : TT} {i : Nat} {v x y : V}
theorem r_seq (h : t { D with nx := u D } σ H) : tSeq t u D σ H := h
theorem r_set (h : te σ H fun x H1 => D.nx (σ.set i (some x)) H1) : tAsg te (gName i) D σ H := h
theorem r_asg {g : TG} (h : te σ H fun x H1 => g x σ H1 D.nx) : tAsg te g D σ H := h
theorem r_drop (h : te σ H fun _ H1 => D.nx σ H1) : tDrop te D σ H := h
theorem r_ret (h : te σ H D.rt) : tRet te D σ H := h
theorem r_retN (h : D.rt .non H) : tRetN D σ H := h
theorem r_next (h : D.nx σ H) : tNext D σ H := h
theorem r_break (h : D.bk σ H) : tBreak D σ H := h
theorem r_cont (h : D.ct σ H) : tCont D σ H := h
theorem r_yes (h : QB true H) : tYes σ H QB := h
theorem r_if (h : c σ H fun b H1 => if b = true then t D σ H1 else u D σ H1) : tIfS c t u D σ H := h
theorem r_ifx (h : c σ H fun d H1 => if d = true then ta σ H1 Q else tb σ H1 Q) : tIf c ta tb σ H Q := h
theorem r_var (h : σ[i]? = some (some v)) (q : Q v H) : tVar i σ H Q := ⟨v, h, q⟩
theorem r_c (q : Q v H) : tC v σ H Q := q
theorem r_op {r : R2} (h : ta σ H fun x H1 => tb σ H1 fun y H2 => r x y H2 Q) : tOp r ta tb σ H Q := h
theorem r_un {r : V → Hp → VK → Prop} (h : ta σ H fun x H1 => r x H1 Q) : tUn r ta σ H Q := h
theorem r_cb {r : List V → Hp → VK → Prop} {t : TA} (h : t σ H fun vs H1 => r vs H1 Q) : tCB r t σ H Q := h
theorem r_cons {tr : TA} (h : te σ H fun x H1 => tr σ H1 fun xs H2 => QA (x :: xs) H2) : tCons te tr σ H QA := h
theorem r_nil (h : QA [] H) : tNil σ H QA := h
theorem r_call {sp : Sp} {dvs : List V} {E : XK} {t : TA} (h : t σ H fun vs H1 => sp (vs ++ dvs) H1 Q E) : tCall sp dvs E t σ H Q := h
theorem r_test (h : te σ H fun x H' => ∃ k, x = .bl k ∧ QB k H') : tTest te σ H QB := h
theorem r_tb (h : te σ H fun x H' => ∃ k, x = .bl k ∧ QB k H') : tB te σ H QB := h
theorem r_bl {b : Bool} {C : Bool → Prop} (h : C b) : ∃ k, V.bl b = .bl k ∧ C k := ⟨b, rfl, h⟩
theorem r_and (h : c σ H fun b H1 => if b = true then c2 σ H1 QB else QB false H1) : tAnd c c2 σ H QB := h
theorem r_or (h : c σ H fun b H1 => if b = true then QB true H1 else c2 σ H1 QB) : tOr c c2 σ H QB := h
theorem r_not (h : c σ H fun b H1 => QB (!b) H1) : tNot c σ H QB := h
theorem r_andV (h : ta σ H fun x H1 => ∃ c, x = .bl c ∧ if c = true then tb σ H1 Q else Q (.bl false) H1) : tAndV ta tb σ H Q := h
theorem r_orV (h : ta σ H fun x H1 => ∃ c, x = .bl c ∧ if c = true then Q (.bl true) H1 else tb σ H1 Q) : tOrV ta tb σ H Q := h
theorem r_notV (h : ta σ H fun x H1 => ∃ c, x = .bl c ∧ Q (.bl (!c)) H1) : tNotV ta σ H Q := h
theorem r_tup {t : TA} (h : t σ H fun xs H1 => xs.length ≤ sizeLine ∧ ∀ p, H1 p = none → Q (.ref p) (upd H1 p (.tup xs))) : tTup t σ H Q := h
theorem r_lst {t : TA} (h : t σ H fun xs H1 => xs.length ≤ sizeLine ∧ ∀ p, H1 p = none → Q (.ref p) (upd H1 p (.lst xs))) : tLst t σ H Q := h
theorem r_I0 {g : Int → Int → V} {i j : Int} (h : Q (g i j) H) : rI0 g (.int i) (.int j) H Q := ⟨i, j, rfl, rfl, h⟩
theorem r_I {C : Int → Int → Prop} {g : Int → Int → V} {i j : Int} (hc : C i j) (h : Q (g i j) H) : rI C g (.int i) (.int j) H Q := ⟨i, j, rfl, rfl, hc, h⟩
theorem r_U {g : Int → V} {i : Int} (h : Q (g i) H) : rU g (.int i) H Q := ⟨i, rfl, h⟩
theorem r_eqI {i j : Int} (h : Q (.bl (decide (i = j))) H) : rEq (.int i) (.int j) H Q := by
  refine ⟨rfl, ?_⟩
  have e : decide (V.int i = V.int j) = decide (i = j) := by simp
  rw [e]; exact h
theorem r_neI {i j : Int} (h : Q (.bl (!decide (i = j))) H) : rNe (.int i) (.int j) H Q := by
  refine ⟨rfl, ?_⟩
  have e : decide (V.int i = V.int j) = decide (i = j) := by simp
  rw [e]; exact h
theorem r_eqS {i j : Str} (h : Q (.bl (decide (i = j))) H) : rEq (.str i) (.str j) H Q := by
  refine ⟨rfl, ?_⟩
  have e : decide (V.str i = V.str j) = decide (i = j) := by simp
  rw [e]; exact h
theorem r_neS {i j : Str} (h : Q (.bl (!decide (i = j))) H) : rNe (.str i) (.str j) H Q := by
  refine ⟨rfl, ?_⟩
  have e : decide (V.str i = V.str j) = decide (i = j) := by simp
  rw [e]; exact h
theorem r_eqB {i j : Bool} (h : Q (.bl (decide (i = j))) H) : rEq (.bl i) (.bl j) H Q := by
  refine ⟨rfl, ?_⟩
  have e : decide (V.bl i = V.bl j) = decide (i = j) := by simp
  rw [e]; exact h
theorem r_neB {i j : Bool} (h : Q (.bl (!decide (i = j))) H) : rNe (.bl i) (.bl j) H Q := by
  refine ⟨rfl, ?_⟩
  have e : decide (V.bl i = V.bl j) = decide (i = j) := by simp
  rw [e]; exact h
theorem r_iteD {p A B : Prop} [Decidable p] (h1 : p → A) (h2 : ¬ p → B) : if decide p = true then A else B := ite2 (fun e => h1 (of_decide_eq_true e)) fun e => h2 fun q => e (decide_eq_true q)
theorem r_iteN {p A B : Prop} [Decidable p] (h1 : ¬ p → A) (h2 : p → B) : if (!decide p) = true then A else B := by
  by_cases h : p
  · rw [decide_eq_true h]; exact iteF (h2 h)
  · rw [decide_eq_false h]; exact iteT (h1 h)
theorem r_ixL {p : Addr} {xs : List V} {i : Int} (h : SqL K H p xs) (a : atI xs i = some v) (q : Q v H) : rIxL K (.ref p) (.int i) H Q := ⟨p, xs, i, v, rfl, rfl, h, a, q⟩
theorem r_ixT {p : Addr} {xs : List V} {i : Int} (h : SqT K H p xs) (a : atI xs i = some v) (q : Q v H) : rIxT K (.ref p) (.int i) H Q := ⟨p, xs, i, v, rfl, rfl, h, a, q⟩
theorem r_ixS {z : Str} {i : Int} {c : Nat} (hz : z.length ≤ sizeLine) (a : atI z.cps.toList i = some c) (q : Q (.str ⟨#[c]⟩) H) : rIxS (.str z) (.int i) H Q := ⟨z, i, c, rfl, rfl, hz, a, q⟩
/-! named readings for what the layer says by a bare fun -/
def rInt1 : List V → Hp → VK → Prop := fun xs H Q => (∃ i, xs = [.int i] ∧ Q (.int i) H) ∨ ∃ k, xs = [.bl k] ∧ Q (.int (if k then 1 else 0)) H
theorem call_int1' {X : Cx} : CallR X (.type "int") rInt1 := call_int1
theorem r_int1 {i : Int} (q : Q (.int i) H) : rInt1 [.int i] H Q := .inl ⟨i, rfl, q⟩
def rLenQ (K : PySem.W.Frag) : List V → Hp → VK → Prop := fun xs H Q => ∃ p ys, xs = [.ref p] ∧ (SqL K H p ys ∨ SqT K H p ys) ∧ Q (.int ys.length) H
theorem call_lenQ {X : Cx} : CallR X (.builtin "len") (rLenQ X.K) := call_len_seq
theorem r_lenL {p : Addr} {ys : List V} (h : SqL K H p ys) (q : Q (.int ys.length) H) : rLenQ K [.ref p] H Q := ⟨p, ys, rfl, .inl h, q⟩
theorem r_lenT {p : Addr} {ys : List V} (h : SqT K H p ys) (q : Q (.int ys.length) H) : rLenQ K [.ref p] H Q := ⟨p, ys, rfl, .inr h, q⟩
def rLenS1 : List V → Hp → VK → Prop := fun xs H Q => ∃ z, xs = [.str z] ∧ z.length ≤ sizeLine ∧ Q (.int z.length) H
theorem call_lenS1 {X : Cx} : CallR X (.builtin "len") rLenS1 := call_len_str
theorem r_lenS {z : Str} (h : z.length ≤ sizeLine) (q : Q (.int z.length) H) : rLenS1 [.str z] H Q := ⟨z, rfl, h, q⟩
def rAddS1 : R2 := fun x y H Q => ∃ i j, x = .str i ∧ y = .str j ∧ i.length + j.length ≤ sizeLine ∧ Q (.str (i ++ j)) H
theorem op_addS {X : Cx} : OpR X (binaryOp .Add) rAddS1 := op_add_str
theorem r_addS {i j : Str} (h : i.length + j.length ≤ sizeLine) (q : Q (.str (i ++ j)) H) : rAddS1 (.str i) (.str j) H Q := ⟨i, j, rfl, rfl, h, q⟩
def rIsN1 : R2 := fun x y H Q => y = .non ∧ Q (.bl (decide (x = .non))) H
def rNotN1 : R2 := fun x y H Q => y = .non ∧ Q (.bl (!decide (x = .non))) H
theorem op_isN1 {X : Cx} : OpR X (compareOp .Is) rIsN1 := op_isN
theorem op_notN1 {X : Cx} : OpR X (compareOp .IsNot) rNotN1 := op_notN
theorem r_isN (q : Q (.bl (decide (x = .non))) H) : rIsN1 x .non H Q := ⟨rfl, q⟩
theorem r_notN (q : Q (.bl (!decide (x = .non))) H) : rNotN1 x .non H Q := ⟨rfl, q⟩
def rTupOf (K : PySem.W.Frag) : List V → Hp → VK → Prop := fun xs H Q => ∃ p ys, xs = [.ref p] ∧ ((SqL K H p ys ∧ ∀ l, H l = none → Q (.ref l) (upd H l (.tup ys))) ∨ (SqT K H p ys ∧ Q (.ref p) H))
theorem call_tupOf {X : Cx} : CallR X (.type "tuple") (rTupOf X.K) := call_tuple_of
theorem r_tupL {p : Addr} {ys : List V} (h : SqL K H p ys) (q : ∀ l, H l = none → Q (.ref l) (upd H l (.tup ys))) : rTupOf K [.ref p] H Q := ⟨p, ys, rfl, .inl ⟨h, q⟩⟩
def rLstOf (K : PySem.W.Frag) : List V → Hp → VK → Prop := fun xs H Q => ∃ p ys, xs = [.ref p] ∧ (SqL K H p ys ∨ SqT K H p ys) ∧ ∀ l, H l = none → Q (.ref l) (upd H l (.lst ys))
theorem call_lstOf {X : Cx} : CallR X (.type "list") (rLstOf X.K) := call_list_of
theorem r_lstL {p : Addr} {ys : List V} (h : SqL K H p ys) (q : ∀ l, H l = none → Q (.ref l) (upd H l (.lst ys))) : rLstOf K [.ref p] H Q := ⟨p, ys, rfl, .inl h, q⟩
theorem r_lstT {p : Addr} {ys : List V} (h : SqT K H p ys) (q : ∀ l, H l = none → Q (.ref l) (upd H l (.lst ys))) : rLstOf K [.ref p] H Q := ⟨p, ys, rfl, .inr h, q⟩
theorem r_cat {l b : Addr} {xs zs : List V} (h1 : H l = some (.lst xs)) (h2 : H b = some (.lst zs)) (hl : xs.length + zs.length ≤ sizeLine) (q : ∀ p, H p = none → Q (.ref p) (upd H p (.lst (xs ++ zs)))) : rCat (.ref l) (.ref b) H Q := ⟨l, b, xs, zs, rfl, rfl, h1, h2, hl, q⟩
theorem r_append {l : Addr} {xs : List V} (h1 : H l = some (.lst xs)) (hl : xs.length < sizeLine) (q : Q .non (upd H l (.lst (xs ++ [y])))) : rAppend (.ref l) [y] H Q := ⟨l, xs, y, rfl, rfl, h1, hl, q⟩
theorem r_extend {l b : Addr} {xs zs : List V} (h1 : H l = some (.lst xs)) (h2 : H b = some (.lst zs)) (hl : xs.length + zs.length ≤ sizeLine) (q : Q .non (upd H l (.lst (xs ++ zs)))) : rExtend (.ref l) [.ref b] H Q := ⟨l, b, xs, zs, rfl, rfl, h1, h2, hl, q⟩
theorem r_bmL {r : V → List V → Hp → VK → Prop} {to : TE} {t : TA} (h : to σ H fun x H1 => tyV K "list" x H1 ∧ t σ H1 fun xs H2 => r x xs H2 Q) : tBM K "list" r to t σ H Q := h
theorem ty_l {p : Addr} {xs : List V} (h : SqL K H p xs) : tyV K "list" (.ref p) H := .inl ⟨rfl, _, h⟩
theorem r_slS {z : Str} {lo hi : Option Int} (h : z.length ≤ sizeLine) (q : Q (.str (cutS z lo hi)) H) : rSlS (.str z) lo hi H Q := ⟨z, rfl, h, q⟩
theorem r_slL {p : Addr} {xs : List V} {lo hi : Option Int} (h : SqL K H p xs) (q : ∀ l, H l = none → Q (.ref l) (upd H l (.lst (cutV xs lo hi)))) : rSlL K (.ref p) lo hi H Q := ⟨p, xs, rfl, h, q⟩
theorem r_sl {r : V → Option Int → Option Int → Hp → VK → Prop} {tl th : TO} (h : te σ H fun x H1 => tl σ H1 fun l H2 => th σ H2 fun u H3 => r x l u H3 Q) : tSl r te tl th σ H Q := h
theorem r_noPart {Qo : Option Int → Hp → Prop} (q : Qo none H) : tNoPart σ H Qo := q
theorem r_part {Qo : Option Int → Hp → Prop} (h : te σ H fun x H1 => ∃ i, x = .int i ∧ Qo (some i) H1) : tPart te σ H Qo := h
theorem r_pint {j : Int} {C : Int → Prop} (h : C j) : ∃ i, V.int j = .int i ∧ C i := ⟨j, rfl, h⟩
theorem r_isi {t u : Value} {b : Bool} {cl : V} (k : ClsV cl u) (ty : TyX K H x t) (e : PySem.W.kitOne K t u = some b) (q : Q (.bl b) H) : rIsi K [x, cl] H Q := ⟨x, cl, t, u, b, rfl, k, ty, e, q⟩
theorem r_rng1 {ta : TA} {R : It → Hp → Prop} (h : ta σ H fun vs H1 => ∃ j : Int, vs = [.int j] ∧ -(2 ^ 62) ≤ j ∧ j < 2 ^ 62 ∧ R (Itr 0 j.toNat) H1) : iRng1 ta σ H R := h
theorem r_rng1' {j : Int} {C : Int → Prop} (h1 : -(2 ^ 62) ≤ j) (h2 : j < 2 ^ 62) (h : C j) : ∃ j' : Int, [V.int j] = [.int j'] ∧ -(2 ^ 62) ≤ j' ∧ j' < 2 ^ 62 ∧ C j' := ⟨j, rfl, h1, h2, h⟩
end

/-! ### what was tracked stands -/
theorem same_t {K : PySem.W.Frag} {H H' : Hp} {a : Addr} {xs : List V} (e : Same H H') (h : SqT K H a xs) : SqT K H' a xs := by
  rcases h with (h | ⟨o, h⟩) | h
  · exact .inl (.inl (e _ _ h))
  · exact .inl (.inr ⟨o, e _ _ h⟩)
  · exact .inr h
theorem same_new {H : Hp} {p : Addr} {o : HO} (h : H p = none) : Same H (upd H p o) := fun b x e => by
  rw [upd_ne (ne_of_none e h)]
  exact e
/-- an object that H did not know was changed -/
theorem same_mut {H H' : Hp} {p : Addr} {o : HO} (e : Same H H') (h : H p = none) : Same H (upd H' p o) := fun a u ha => by
  rw [upd_ne (ne_of_none ha h)]
  exact e a u ha
mutual
theorem dp_same {K : PySem.W.Frag} {H H' : Hp} (e : Same H H') : ∀ (d : PyData) (v : V), Dp K H v d → Dp K H' v d
  | .none, _, h => by cases h; exact .non
  | .bool b, _, h => by cases h; exact .bl b
  | .int i, _, h => by cases h; exact .int i
  | .str x, _, h => by cases h; exact .str x
  | .list ds, _, h => by
    cases h with
    | lst hs ha => exact .lst (e.seq hs) (dpAll_same e ds _ ha)
  | .tuple ds, _, h => by
    cases h with
    | tup hs ha => exact .tup (same_t e hs) (dpAll_same e ds _ ha)
  | .dict _, _, h => by cases h
theorem dpAll_same {K : PySem.W.Frag} {H H' : Hp} (e : Same H H') : ∀ (ds : List PyData) (vs : List V), DpAll K H vs ds → DpAll K H' vs ds
  | [], _, h => by cases h; exact .nil
  | d :: ds, _, h => by
    cases h with
    | cons h1 h2 => exact .cons (dp_same e d _ h1) (dpAll_same e ds _ h2)
end
theorem dpAll_len {K : PySem.W.Frag} {H : Hp} : ∀ {vs : List V} {ds : List PyData}, DpAll K H vs ds → vs.length = ds.length
  | _, _, .nil => rfl
  | _, _, .cons _ t => congrArg (· + 1) (dpAll_len t)
theorem dpAll_get {K : PySem.W.Frag} {H : Hp} : ∀ {vs : List V} {ds : List PyData} {i : Nat} {d : PyData}, DpAll K H vs ds → ds[i]? = some d → ∃ v, vs[i]? = some v ∧ Dp K H v d
  | _, _, _, _, .nil, e => by simp at e
  | _, _, 0, _, .cons h _, e => by simp at e; subst e; exact ⟨_, rfl, h⟩
  | _, _, i + 1, d, .cons _ t, e => by
    obtain ⟨v, h1, h2⟩ := dpAll_get (i := i) (d := d) t (by simpa using e)
    exact ⟨v, by simpa using h1, h2⟩
theorem dpAll_map {K : PySem.W.Frag} {H : Hp} {α : Type} {f : α → V} {g : α → PyData} (h : ∀ x, Dp K H (f x) (g x)) : ∀ xs : List α, DpAll K H (xs.map f) (xs.map g)
  | [] => .nil
  | x :: xs => .cons (h x) (dpAll_map h xs)
/-- the type of what bears data -/
theorem tyx_sqL {K : PySem.W.Frag} {H : Hp} {a : Addr} {xs : List V} (h : SqL K H a xs) : TyX K H (.ref a) (.type "list") := by
  rcases h with (h | ⟨o, h⟩) | ⟨o, its, n, hk, hc, _⟩
  · exact .base (.lst h)
  · exact .base (.frz h)
  · exact .kList hk hc
theorem tyx_sqT {K : PySem.W.Frag} {H : Hp} {a : Addr} {xs : List V} (h : SqT K H a xs) : TyX K H (.ref a) (.type "tuple") := by
  rcases h with (h | ⟨o, h⟩) | ⟨o, its, n, hk, hc, _⟩
  · exact .base (.tup h)
  · exact .fTuple h
  · exact .kTuple hk hc

/-! ### walks over a text's signs -/
theorem for_str {x : Str} {g : TG} {tb : TS} {D : Ends} {σ : L2.St} {H : Hp} (Pv : Nat → L2.St → Hp → Prop) (h0 : Pv 0 σ H)
    (hs : ∀ i c σ H, x.cps.toList[i]? = some c → Pv i σ H → g (.str ⟨#[c]⟩) σ H fun σ2 H2 => tb { D with nx := Pv (i + 1), ct := Pv (i + 1), bk := D.nx } σ2 H2) (hd : ∀ σ H, Pv x.cps.size σ H → D.nx σ H) :
    ∃ W : Nat → Nat → L2.St → Hp → Prop, (∃ m, W 0 m σ H) ∧ ∀ i m σ H, W i m σ H →
      ((Its x).stop i H ∧ D.nx σ H) ∨ ((Its x).go i H ∧ ∃ N : L2.St → Hp → Prop, (∀ σ' H', N σ' H' → ∃ m', m' < m ∧ W (i + 1) m' σ' H') ∧ ∀ x' H', (Its x).yld i H x' H' → g x' σ H' fun σ2 H2 => tb { D with nx := N, ct := N, bk := D.nx } σ2 H2) := by
  refine ⟨fun i m σ H => m = x.cps.size - i ∧ i ≤ x.cps.size ∧ Pv i σ H, ⟨x.cps.size, by simp, Nat.zero_le _, h0⟩, ?_⟩
  rintro i m σ H ⟨rfl, hi, p⟩
  by_cases hlt : i < x.cps.size
  · refine .inr ⟨hlt, Pv (i + 1), fun σ' H' p' => ⟨x.cps.size - (i + 1), by omega, rfl, hlt, p'⟩, fun x' H' y => ?_⟩
    obtain ⟨e, c, hc, rfl⟩ := y
    subst e
    exact hs i c σ _ (by rw [Array.getElem?_toList]; exact hc) p
  · have e : i = x.cps.size := by omega
    subst e
    exact .inl ⟨Nat.le_refl _, hd σ H p⟩
end G
namespace G
open PySem PySem.Spec PyProof.Rows L2
/-! isinstance of built-in kinds -/
section
variable {K : PySem.W.Frag}
theorem kt_NoneType_list : PySem.W.kitOne K (.type "NoneType") (.type "list") = some false := kit_ty (by decide +kernel)
theorem kt_NoneType_tuple : PySem.W.kitOne K (.type "NoneType") (.type "tuple") = some false := kit_ty (by decide +kernel)
theorem kt_NoneType_bool : PySem.W.kitOne K (.type "NoneType") (.type "bool") = some false := kit_ty (by decide +kernel)
theorem kt_NoneType_int : PySem.W.kitOne K (.type "NoneType") (.type "int") = some false := kit_ty (by decide +kernel)
theorem kt_NoneType_str : PySem.W.kitOne K (.type "NoneType") (.type "str") = some false := kit_ty (by decide +kernel)
theorem kt_bool_list : PySem.W.kitOne K (.type "bool") (.type "list") = some false := kit_ty (by decide +kernel)
theorem kt_bool_tuple : PySem.W.kitOne K (.type "bool") (.type "tuple") = some false := kit_ty (by decide +kernel)
theorem kt_bool_bool : PySem.W.kitOne K (.type "bool") (.type "bool") = some true := kit_ty (by decide +kernel)
theorem kt_bool_int : PySem.W.kitOne K (.type "bool") (.type "int") = some true := kit_ty (by decide +kernel)
theorem kt_bool_str : PySem.W.kitOne K (.type "bool") (.type "str") = some false := kit_ty (by decide +kernel)
theorem kt_int_list : PySem.W.kitOne K (.type "int") (.type "list") = some false := kit_ty (by decide +kernel)
theorem kt_int_tuple : PySem.W.kitOne K (.type "int") (.type "tuple") = some false := kit_ty (by decide +kernel)
theorem kt_int_bool : PySem.W.kitOne K (.type "int") (.type "bool") = some false := kit_ty (by decide +kernel)
theorem kt_int_int : PySem.W.kitOne K (.type "int") (.type "int") = some true := kit_ty (by decide +kernel)
theorem kt_int_str : PySem.W.kitOne K (.type "int") (.type "str") = some false := kit_ty (by decide +kernel)
theorem kt_str_list : PySem.W.kitOne K (.type "str") (.type "list") = some false := kit_ty (by decide +kernel)
theorem kt_str_tuple : PySem.W.kitOne K (.type "str") (.type "tuple") = some false := kit_ty (by decide +kernel)
theorem kt_str_bool : PySem.W.kitOne K (.type "str") (.type "bool") = some false := kit_ty (by decide +kernel)
theorem kt_str_int : PySem.W.kitOne K (.type "str") (.type "int") = some false := kit_ty (by decide +kernel)
theorem kt_str_str : PySem.W.kitOne K (.type "str") (.type "str") = some true := kit_ty (by decide +kernel)
theorem kt_list_list : PySem.W.kitOne K (.type "list") (.type "list") = some true := kit_ty (by decide +kernel)
theorem kt_list_tuple : PySem.W.kitOne K (.type "list") (.type "tuple") = some false := kit_ty (by decide +kernel)
theorem kt_list_bool : PySem.W.kitOne K (.type "list") (.type "bool") = some false := kit_ty (by decide +kernel)
theorem kt_list_int : PySem.W.kitOne K (.type "list") (.type "int") = some false := kit_ty (by decide +kernel)
theorem kt_list_str : PySem.W.kitOne K (.type "list") (.type "str") = some false := kit_ty (by decide +kernel)
theorem kt_tuple_list : PySem.W.kitOne K (.type "tuple") (.type "list") = some false := kit_ty (by decide +kernel)
theorem kt_tuple_tuple : PySem.W.kitOne K (.type "tuple") (.type "tuple") = some true := kit_ty (by decide +kernel)
theorem kt_tuple_bool : PySem.W.kitOne K (.type "tuple") (.type "bool") = some false := kit_ty (by decide +kernel)
theorem kt_tuple_int : PySem.W.kitOne K (.type "tuple") (.type "int") = some false := kit_ty (by decide +kernel)
theorem kt_tuple_str : PySem.W.kitOne K (.type "tuple") (.type "str") = some false := kit_ty (by decide +kernel)
end
section
variable {K : PySem.W.Frag} {H : Hp} {Q : VK} {v : V}
theorem r_xL {p : Addr} {xs : List V} {i : Int} (h : SqL K H p xs) (a : atI xs i = some v) (q : Q v H) : rIx K (.ref p) (.int i) H Q := .inl ⟨p, xs, i, v, rfl, rfl, h, a, q⟩
theorem r_xT {p : Addr} {xs : List V} {i : Int} (h : SqT K H p xs) (a : atI xs i = some v) (q : Q v H) : rIx K (.ref p) (.int i) H Q := .inr (.inl ⟨p, xs, i, v, rfl, rfl, h, a, q⟩)
end
/-! a def of which nothing is promised -/
theorem fn_false {P : Program} {w : World} {K : PySem.W.Frag} {mg : Str → Option Value} {base : Heap} {CX : CXT} {k : Nat} {f : Addr} {fd : FuncData} {ps : List Str} : FnOk P w K mg base CX k f fd ps (fun _ _ _ _ => False) := by
  constructor
  · intros; contradiction
  · intros; contradiction
theorem fn_vac {P : Program} {w : World} {K : PySem.W.Frag} {mg : Str → Option Value} {base : Heap} {CX : CXT} {k : Nat} {f : Addr} {fd : FuncData} {ps : List Str} {sp : Sp} (h : ∀ vs H Q E, sp vs H Q E → False) : FnOk P w K mg base CX k f fd ps sp := by
  have e : sp = fun _ _ _ _ => False := by
    funext vs H Q E
    exact propext ⟨h vs H Q E, False.elim⟩
  rw [e]
  exact fn_false

/-! ### promises of the law's helpers -/
def cellV (ns : List Int) (k : Int) : Int := ns.getD k.toNat 0
def spCellG (K : PySem.W.Frag) : Sp := fun vs H Q _ => ∃ (l : Addr) (ns : List Int) (k : Int), vs = [.ref l, .int k] ∧ SqL K H l (ns.map V.int) ∧ 0 ≤ k ∧ Q (.int (cellV ns k)) H
/-- data of a depth below n, of bounded lengths -/
def fits : Nat → PyData → Prop
  | 0, _ => False
  | n + 1, .list ds => ds.length ≤ sizeLine ∧ ∀ d ∈ ds, fits n d
  | n + 1, .tuple ds => ds.length ≤ sizeLine ∧ ∀ d ∈ ds, fits n d
  | _ + 1, .dict _ => False
  | _ + 1, .none => True
  | _ + 1, .bool _ => True
  | _ + 1, .int _ => True
  | _ + 1, .str _ => True
def spSame (K : PySem.W.Frag) (n : Nat) : Sp := fun vs H Q _ => ∃ (x y : V) (d : PyData), vs = [x, y] ∧ Dp K H x d ∧ Dp K H y d ∧ fits n d ∧ Q (.bl true) H
/-- count new numbers from 0 to 999 -/
def spNums (K : PySem.W.Frag) : Sp := fun vs H Q _ => ∃ (c : Int) (n : Nat), vs = [.int c, .int (n : Int)] ∧ n ≤ 10000 ∧
  ∀ (H' : Hp) (p : Addr) (ns : List Int), Same H H' → H p = none → H' p = some (.lst (ns.map V.int)) → ns.length = n → (∀ z ∈ ns, 0 ≤ z ∧ z < 1000) → Q (.ref p) H'
theorem emod_rng (a : Int) {b : Int} (h : 0 < b) : 0 ≤ a % b ∧ a % b < b := ⟨Int.emod_nonneg a (by omega), Int.emod_lt_of_pos a h⟩
/-! texts as lists of codes -/
abbrev sV (l : List Nat) : V := .str ⟨l.toArray⟩
theorem str_app (a b : List Nat) : (⟨a.toArray⟩ : Str) ++ (⟨b.toArray⟩ : Str) = ⟨(a ++ b).toArray⟩ := congrArg Str.mk (show a.toArray ++ b.toArray = (a ++ b).toArray by simp)
theorem str_len (a : List Nat) : (⟨a.toArray⟩ : Str).length = a.length := by simp [Str.length]
/-- a comprehension over a text's signs -/
theorem lc_str {x : Str} {g : TG} {tt : TT} {te : TE} {vs : List Nat} {σ : L2.St} {H1 : Hp} {D : Addr} {Qd : Hp → Prop} (Pv : Nat → Hp → Prop) (h0 : Pv 0 (upd H1 D (.lst [])))
    (hs : ∀ i c H, x.cps.toList[i]? = some c → Pv i H → g (.str ⟨#[c]⟩) (wipe σ vs) H fun σ2 H2 => wipe σ2 vs = wipe σ vs ∧ tt σ2 H2 fun b H3 =>
      if b = true then te σ2 H3 fun y H4 => ∃ acc, H4 D = some (.lst acc) ∧ acc.length < sizeLine ∧ Pv (i + 1) (upd H4 D (.lst (acc ++ [y]))) else Pv (i + 1) H3) (hd : ∀ H, Pv x.cps.size H → Qd H) :
    ∃ W : Nat → Nat → Hp → Prop, (∃ m, W 0 m (upd H1 D (.lst []))) ∧ ∀ i m H, W i m H →
      ((Its x).stop i H ∧ Qd H) ∨ ((Its x).go i H ∧ ∃ Nx : Hp → Prop, (∀ H', Nx H' → ∃ m', m' < m ∧ W (i + 1) m' H') ∧ ∀ x' H', (Its x).yld i H x' H' → g x' (wipe σ vs) H' fun σ2 H2 => wipe σ2 vs = wipe σ vs ∧ tt σ2 H2 fun b H3 =>
        if b = true then te σ2 H3 fun y H4 => ∃ acc, H4 D = some (.lst acc) ∧ acc.length < sizeLine ∧ Nx (upd H4 D (.lst (acc ++ [y]))) else Nx H3) := by
  refine ⟨fun i m H => m = x.cps.size - i ∧ i ≤ x.cps.size ∧ Pv i H, ⟨x.cps.size, by simp, Nat.zero_le _, h0⟩, ?_⟩
  rintro i m H ⟨rfl, hi, p⟩
  by_cases hlt : i < x.cps.size
  · refine .inr ⟨hlt, Pv (i + 1), fun H' p' => ⟨x.cps.size - (i + 1), by omega, rfl, hlt, p'⟩, fun x' H' y => ?_⟩
    obtain ⟨e, c, hc, rfl⟩ := y
    subst e
    exact hs i c _ (by rw [Array.getElem?_toList]; exact hc) p
  · have e : i = x.cps.size := by omega
    subst e
    exact .inl ⟨Nat.le_refl _, hd H p⟩
theorem cut_abcd {m : Nat} (h4 : m ≤ 4) : cutS (Str.ofString "abcd") none (some (m : Int)) = ⟨(List.take m [97, 98, 99, 100]).toArray⟩ := by
  match m, h4 with
  | 0, _ => decide +kernel
  | 1, _ => decide +kernel
  | 2, _ => decide +kernel
  | 3, _ => decide +kernel
  | 4, _ => decide +kernel
section
variable {σ : L2.St} {H : Hp} {Q : VK} {K : PySem.W.Frag} {te : TE} {R : It → Hp → Prop}
theorem r_gn {i : Nat} {v : V} {C : L2.St → Hp → Prop} (h : C (σ.set i (some v)) H) : gName i v σ H C := h
theorem iteNT {A B : Prop} (h : B) : if (!true) = true then A else B := iteF h
theorem iteNF {A B : Prop} (h : A) : if (!false) = true then A else B := iteT h
theorem r_fdiv {g : Int → Int → V} {i j : Int} (hc : 0 < j ∧ j < 1073741824) (h : Q (g i j) H) : rI CDiv g (.int i) (.int j) H Q := ⟨i, j, rfl, rfl, hc, h⟩
theorem r_mod {g : Int → Int → V} {i j : Int} (hc : 0 < j) (h : Q (g i j) H) : rI (fun _ j => 0 < j) g (.int i) (.int j) H Q := ⟨i, j, rfl, rfl, hc, h⟩
theorem r_mul {g : Int → Int → V} {i j : Int} (hc : (-(2 ^ 64) < i ∧ i < 2 ^ 64) ∨ (-(2 ^ 64) < j ∧ j < 2 ^ 64)) (h : Q (g i j) H) : rI CMul g (.int i) (.int j) H Q := ⟨i, j, rfl, rfl, hc, h⟩
theorem r_pow {g : Int → Int → V} {i j : Int} (hc : 0 ≤ j ∧ j ≤ 1000000 ∧ i.natAbs < 2 ^ 64) (h : Q (g i j) H) : rI CPow g (.int i) (.int j) H Q := ⟨i, j, rfl, rfl, hc, h⟩
theorem r_iStr (h : te σ H fun v H1 => ∃ x, v = .str x ∧ R (Its x) H1) : iStr te σ H R := h
theorem r_iList (h : te σ H fun x H1 => ∃ a, x = .ref a ∧ (∃ xs, SqL K H1 a xs) ∧ R (Itl K a) H1) : iList K te σ H R := h
theorem r_iTup (h : te σ H fun x H1 => ∃ a, x = .ref a ∧ (∃ xs, SqT K H1 a xs) ∧ R (Itt K a) H1) : iTup K te σ H R := h
theorem r_str1 {z : Str} {C : Str → Prop} (h : C z) : ∃ x, V.str z = .str x ∧ C x := ⟨z, rfl, h⟩
theorem r_ref1 {p : Addr} {C : Addr → Prop} (h : C p) : ∃ a, V.ref p = .ref a ∧ C a := ⟨p, rfl, h⟩
end
/-! places in a text -/
def noE : Expr := .Name "" ⟨0, 0, 0, 0⟩
def noS : Stmt := .Pass ⟨0, 0, 0, 0⟩
def eArg (k : Nat) : Expr → Expr | .Call _ es _ _ => es.getD k noE | _ => noE
def eFun : Expr → Expr | .Call f _ _ _ => f | _ => noE
def eObj : Expr → Expr | .Attribute v _ _ => v | _ => noE
def eElt : Expr → Expr | .ListComp e _ _ _ => e | .SetComp e _ _ _ => e | .GeneratorExp e _ _ _ => e | _ => noE
def eScope : Expr → Scope | .ListComp _ _ sc _ => sc | .SetComp _ _ sc _ => sc | .GeneratorExp _ _ sc _ => sc | _ => { kind := .function, names := [], isGenerator := false, isCoroutine := false }
def eIter (k : Nat) : Expr → Expr | .ListComp _ gs _ _ => (gs.map fun g => g.iter).getD k noE | _ => noE
def eIf (k j : Nat) : Expr → Expr | .ListComp _ gs _ _ => ((gs.map fun g => g.ifs).getD k []).getD j noE | _ => noE
def eLeft : Expr → Expr | .BinOp a _ _ _ => a | .Compare a _ _ _ => a | .Subscript a _ _ => a | .UnaryOp _ a _ => a | _ => noE
def eRight : Expr → Expr | .BinOp _ _ b _ => b | .Subscript _ b _ => b | _ => noE
def eCmp (k : Nat) : Expr → Expr | .Compare _ _ bs _ => bs.getD k noE | _ => noE
def eVal (k : Nat) : Expr → Expr | .BoolOp _ es _ => es.getD k noE | .List es _ => es.getD k noE | .Tuple es _ _ => es.getD k noE | _ => noE
def sE : Stmt → Expr | .Assign _ e _ => e | .AugAssign _ _ e _ => e | .Return (some e) _ => e | .Expr e _ => e | .If c _ _ _ => c | .While c _ _ _ => c | .For _ it _ _ _ => it | _ => noE
def sIn (k : Nat) : Stmt → Stmt | .FunctionDef _ _ b _ _ _ _ _ _ _ => b.getD k noS | .If _ b _ _ => b.getD k noS | .For _ _ b _ _ => b.getD k noS | .While _ b _ _ => b.getD k noS | _ => noS
def sElse (k : Nat) : Stmt → Stmt | .If _ _ b _ => b.getD k noS | _ => noS
section
variable {σ : L2.St} {H : Hp} {Q : VK} {K : PySem.W.Frag} {te : TE}
def rIdxS : V → List V → Hp → VK → Prop := fun x xs H Q => ∃ a b i rest, x = .str a ∧ xs = [.str b] ∧ Builtin.Str.occurrences a b 0 a.length 1 = i :: rest ∧ Q (.int (i : Nat)) H
theorem mt_indexS {X : Cx} : MtR X "str.index" rIdxS := mt_sindex
theorem occ_abcd {j c : Nat} (h : [97, 98, 99, 100][j]? = some c) : Builtin.Str.occurrences (Str.ofString "abcd") ⟨#[c]⟩ 0 (Str.ofString "abcd").length 1 = [j] := by
  match j, h with
  | 0, h => cases Option.some.inj h; decide +kernel
  | 1, h => cases Option.some.inj h; decide +kernel
  | 2, h => cases Option.some.inj h; decide +kernel
  | 3, h => cases Option.some.inj h; decide +kernel
  | n + 4, h => simp at h
theorem r_idxS {j c : Nat} (h : [97, 98, 99, 100][j]? = some c) (q : Q (.int (j : Int)) H) : rIdxS (.str (Str.ofString "abcd")) [.str ⟨#[c]⟩] H Q := ⟨_, _, j, [], rfl, rfl, occ_abcd h, q⟩
def rJoinS (K : PySem.W.Frag) : V → List V → Hp → VK → Prop := fun x xs H Q => ∃ a p, ∃ ys : List Str, x = .str a ∧ xs = [.ref p] ∧ (SqL K H p (ys.map V.str) ∨ SqT K H p (ys.map V.str)) ∧ (ys.map (·.length)).sum + ys.length * a.length ≤ 16777216 ∧ Q (.str (Txt.join a ys)) H
theorem mt_joinS {X : Cx} : MtR X "str.join" (rJoinS X.K) := mt_join
theorem r_bmS {T : String} {r : V → List V → Hp → VK → Prop} {to : TE} {t : TA} (h : to σ H fun x H1 => tyV K T x H1 ∧ t σ H1 fun xs H2 => r x xs H2 Q) : tBM K T r to t σ H Q := h
theorem foldl_app : ∀ (xs : List (Array Nat)) (acc : Array Nat), xs.foldl (· ++ ·) acc = acc ++ (xs.map Array.toList).flatten.toArray
  | [], acc => by simp
  | x :: xs, acc => by
    rw [List.foldl_cons, foldl_app xs (acc ++ x)]
    rw [List.map_cons, List.flatten_cons, Array.append_assoc]
    congr 1
    apply Array.ext'
    simp
theorem mul_txt (l : List Nat) (n : Nat) : Txt.mul ⟨l.toArray⟩ (n : Int) = ⟨((List.replicate n l).flatten).toArray⟩ := by
  unfold Txt.mul
  by_cases h1 : (n : Int) < 1
  · have e : n = 0 := by omega
    subst e
    rfl
  · rw [if_neg h1]
    by_cases h2 : ((n : Int) == 1 || (⟨l.toArray⟩ : Str).length == 0) = true
    · rw [if_pos h2]
      rcases Bool.or_eq_true_iff.mp h2 with e | e
      · have e' : n = 1 := by have := eq_of_beq e; omega
        subst e'
        simp
      · have e' : l = [] := by
          have e2 : l.toArray.size = 0 := eq_of_beq e
          rw [List.size_toArray] at e2
          exact List.length_eq_zero_iff.mp e2
        subst e'
        simp
    · rw [if_neg h2]
      congr 1
      rw [foldl_app]
      simp
def rRepS : R2 := fun x y H Q => ∃ (l : List Nat) (n : Nat), x = .str ⟨l.toArray⟩ ∧ y = .int (n : Int) ∧ l.length * n ≤ sizeLine ∧ n ≤ 1000000 ∧ Q (.str ⟨((List.replicate n l).flatten).toArray⟩) H
theorem op_repS {X : Cx} : OpR X (binaryOp .Mult) rRepS := by
  intro pins s σ H x y v u Q I rx ry h
  obtain ⟨l, n, rfl, rfl, hl, hn, q⟩ := h
  obtain ⟨t, rfl⟩ := rx
  obtain ⟨t2, rfl⟩ := ry
  refine SB.mul ⟨?_, fun h1 h2 => ?_, fun h1 h2 => ?_⟩ fun t' k => ⟨.str (Txt.mul ⟨l.toArray⟩ (n : Int)), H, I.tok k, ⟨t', rfl⟩, ?_⟩
  · rw [Bool.or_eq_false_iff]
    exact ⟨decide_eq_false (by omega), decide_eq_false (by omega)⟩
  · have hz : (sizeLine : Nat) = 16777216 := by decide
    rw [str_len]
    intro hc
    have hn1 : 1 ≤ n := by omega
    have hll : l.length ≤ 16777216 := by
      have : l.length * 1 ≤ l.length * n := Nat.mul_le_mul_left _ hn1
      omega
    have h3 : (1000000000 : Int) ≤ (2 ^ 63 - 1) / (n : Int) := by
      rw [Int.le_ediv_iff_mul_le (by omega)]
      omega
    omega
  · rw [str_len]
    have : (l.length * (n : Int).toNat) ≤ sizeLine := by rw [Int.toNat_natCast]; exact hl
    exact decide_eq_false (by omega)
  · rw [mul_txt]
    exact q
theorem r_lstRg1 {j : Int} (h0 : 0 ≤ j) (h1 : j ≤ 16777216) (q : ∀ p, H p = none → Q (.ref p) (upd H p (.lst (((List.range j.toNat).map fun i : Nat => (i : Int)).map V.int)))) (h : te σ H fun x H1 => x = .int j ∧ H1 = H) (mono : ∀ R R' : VK, (∀ v H, R v H → R' v H) → te σ H R → te σ H R') : tLstRg (tRg1 te) σ H Q := by
  refine mono _ _ (fun v H1 e => ?_) h
  obtain ⟨rfl, rfl⟩ := e
  refine ⟨j, rfl, RgOk.of_le (Int.le_refl _) h1 (by decide) h0, fun p hp => ?_⟩
  have e : rgV 0 j = ((List.range j.toNat).map fun i : Nat => (i : Int)).map V.int := by
    unfold rgV
    rw [List.map_map, show (j - 0) = j by omega]
    refine List.map_congr_left fun i _ => ?_
    show V.int (0 + (i : Int)) = V.int (i : Int)
    rw [Int.zero_add]
  rw [e]
  exact q p hp
end
/-! drawn numbers -/
def Dr (n : Nat) (c : Int) (ms : List Int) : Prop := ms.length = n ∧ ∀ z ∈ ms, 0 ≤ z ∧ z < c
theorem Dr.nil {c : Int} : Dr 0 c [] := ⟨rfl, fun _ h => nomatch h⟩
theorem Dr.app {n : Nat} {c z : Int} {ms : List Int} (h : Dr n c ms) (h0 : 0 ≤ z) (h1 : z < c) : Dr (n + 1) c (ms ++ [z]) := by
  refine ⟨by rw [List.length_append, h.1]; rfl, fun y hy => ?_⟩
  rcases List.mem_append.mp hy with hy | hy
  · exact h.2 y hy
  · rw [List.mem_singleton.mp hy]; exact ⟨h0, h1⟩
theorem Dr.set {n : Nat} {c z : Int} {ms : List Int} {j : Nat} (h : Dr n c ms) (h0 : 0 ≤ z) (h1 : z < c) : Dr n c (ms.set j z) := by
  refine ⟨by rw [List.length_set]; exact h.1, fun y hy => ?_⟩
  rcases List.mem_or_eq_of_mem_set hy with hy | hy
  · exact h.2 y hy
  · rw [hy]; exact ⟨h0, h1⟩
theorem Dr.getD {n : Nat} {c : Int} {ms : List Int} {j : Nat} (h : Dr n c ms) (hj : j < n) : 0 ≤ ms.getD j 0 ∧ ms.getD j 0 < c := by
  have hj' : j < ms.length := by rw [h.1]; exact hj
  rw [List.getD_eq_getElem?_getD, List.getElem?_eq_getElem hj']
  exact h.2 _ (List.getElem_mem hj')
theorem at_int {ns : List Int} {i : Int} (h0 : 0 ≤ i) (h1 : i < ns.length) : atI (ns.map V.int) i = some (.int (ns.getD i.toNat 0)) := by
  have hi : i.toNat < ns.length := by omega
  refine at_of (j := i.toNat) (by omega) ?_
  rw [List.getElem?_map, List.getD_eq_getElem?_getD, List.getElem?_eq_getElem hi]
  rfl
theorem ix_set {n : Nat} {i : Int} (h0 : 0 ≤ i) (h1 : i < n) : ixN n i = some i.toNat := by
  unfold ixN
  rw [if_pos h0, if_pos h1]
theorem r_setL {p : Addr} {xs : List V} {k : Int} {y : V} {H : Hp} {Q : Hp → Prop} (h : H p = some (.lst xs)) (h0 : 0 ≤ k) (h1 : k < xs.length) (q : Q (upd H p (.lst (xs.set k.toNat y)))) : rSetL (.ref p) (.int k) y H Q := ⟨p, xs, k, k.toNat, rfl, rfl, h, ix_set h0 h1, q⟩
theorem r_gsub {to ti : TE} {t : TSet} {v : V} {σ : L2.St} {H : Hp} {C : L2.St → Hp → Prop} (h : to σ H fun o H1 => ti σ H1 fun i H2 => t o i v H2 fun H3 => C σ H3) : gSub to ti t v σ H C := h
theorem map_set_int (ms : List Int) (j : Nat) (z : Int) : (ms.map V.int).set j (V.int z) = (ms.set j z).map V.int := by rw [List.map_set]
theorem rep_flat (z : Int) (n : Nat) : (List.replicate n [V.int z]).flatten = (List.replicate n z).map V.int := by
  induction n with
  | zero => rfl
  | succ n ih => rw [List.replicate_succ, List.flatten_cons, ih, List.replicate_succ]; rfl
theorem Dr.rep {n : Nat} {c z : Int} (h0 : 0 ≤ z) (h1 : z < c) : Dr n c (List.replicate n z) := ⟨List.length_replicate, fun y hy => by rw [(List.mem_replicate.mp hy).2]; exact ⟨h0, h1⟩⟩
theorem Dr.perm {n : Nat} {c : Int} {ms ms' : List Int} (h : Dr n c ms) (p : ms'.Perm ms) : Dr n c ms' := ⟨by rw [p.length_eq]; exact h.1, fun y hy => h.2 y (p.mem_iff.mp hy)⟩
theorem Dr.range (n : Nat) : Dr n n ((List.range n).map fun i : Nat => (i : Int)) := by
  refine ⟨by rw [List.length_map, List.length_range], fun y hy => ?_⟩
  obtain ⟨i, hi, rfl⟩ := List.mem_map.mp hy
  have := List.mem_range.mp hi
  exact ⟨by omega, by omega⟩
def spAction (K : PySem.W.Frag) : Sp := fun vs H Q _ => ∃ (p : Addr) (ns : List Int) (n : Nat), vs = [.ref p, .int (n : Int)] ∧ SqL K H p (ns.map V.int) ∧ 12 ≤ ns.length ∧ 1 ≤ n ∧ n ≤ 10 ∧
  ∀ (H' : Hp) (q : Addr) (ms : List Int), Same H H' → H q = none → H' q = some (.lst (ms.map V.int)) → Dr n n ms → Q (.ref q) H'
/-! the rules with the written part named -/
section
variable {X : Cx} {K : PySem.W.Frag}
theorem ix_listK (h : X.K = K) : IxR X (rIxL K) := h ▸ ix_list
theorem ix_tupK (h : X.K = K) : IxR X (rIxT K) := h ▸ ix_tup
theorem ix_seqK (h : X.K = K) : IxR X (rIx K) := h ▸ ix_seq
theorem call_lenQK (h : X.K = K) : CallR X (.builtin "len") (rLenQ K) := h ▸ call_lenQ
theorem call_tupOfK (h : X.K = K) : CallR X (.type "tuple") (rTupOf K) := h ▸ call_tupOf
theorem call_lstOfK (h : X.K = K) : CallR X (.type "list") (rLstOf K) := h ▸ call_lstOf
theorem call_isiK1 (h : X.K = K) : CallR X (.builtin "isinstance") (rIsi K) := h ▸ call_isi
theorem cr_sortedK (h : X.K = K) : CallR X (.builtin "sorted") (rSorted K) := h ▸ cr_sorted
theorem sl_listK (h : X.K = K) : SlR X (rSlL K) := h ▸ sl_list
theorem sl_tupK (h : X.K = K) : SlR X (rSlT K) := h ▸ sl_tup
theorem op_inK (h : X.K = K) : OpR X (compareOp .In) (rIn K false) := h ▸ op_in_seq
theorem op_notInK (h : X.K = K) : OpR X (compareOp .NotIn) (rIn K true) := h ▸ op_notIn_seq
theorem op_catTK (h : X.K = K) : OpR X (binaryOp .Add) (rCatT K) := h ▸ op_catT
theorem op_eqDK (h : X.K = K) (hu : X.A.units + 64 < cLine) : OpR X (compareOp .Eq) (rEqD K) := h ▸ op_eqD hu
theorem op_neDK (h : X.K = K) (hu : X.A.units + 64 < cLine) : OpR X (compareOp .NotEq) (rNeD K) := h ▸ op_neD hu
theorem mt_joinSK (h : X.K = K) : MtR X "str.join" (rJoinS K) := h ▸ mt_joinS
theorem cr_anyK (h : X.K = K) (hc : X.calm = true) : CallR X (.builtin "any") (rAny K) := h ▸ cr_any hc
theorem pi_listK {tg l : Expr} {tl : TE} (h : X.K = K) (hl : PE X l tl) : PI X tg l (iList K tl) := h ▸ pi_list hl
theorem pi_tupK {tg l : Expr} {tl : TE} (h : X.K = K) (hl : PE X l tl) : PI X tg l (iTup K tl) := h ▸ pi_tup hl
theorem bmK {e : Expr} {T : String} {r : V → List V → Hp → VK → Prop} {to : TE} {t : TA} (h : X.K = K) (p : PE X e (tBM X.K T r to t)) : PE X e (tBM K T r to t) := h ▸ p
theorem bm0K {e : Expr} {T : String} {r : V → List V → Hp → VK → Prop} {to : TE} (h : X.K = K) (p : PE X e (tBM0 X.K T r to)) : PE X e (tBM0 K T r to) := h ▸ p
theorem pg_tupK {es : List Expr} {k : Nat} {t : TGs} {n : Nat} {pos : Pos} (hK : X.K = K) (hc : X.calm = true) (h : PGs X es t) (hn : (assignEach es X.env).length = n := by rfl) (hst : (assignEach es X.env).findIdx? (·.1) = none := by rfl) : PG X (.Tuple es k pos) (gTup K n t) := hK ▸ pg_tup hc h hn hst
end
theorem ln1 {x0 : V} : [x0].length ≤ sizeLine := by show 1 ≤ sizeLine; decide
theorem ln2 {x0 x1 : V} : [x0, x1].length ≤ sizeLine := by show 2 ≤ sizeLine; decide
theorem ln3 {x0 x1 x2 : V} : [x0, x1, x2].length ≤ sizeLine := by show 3 ≤ sizeLine; decide
theorem ln4 {x0 x1 x2 x3 : V} : [x0, x1, x2, x3].length ≤ sizeLine := by show 4 ≤ sizeLine; decide
theorem ln5 {x0 x1 x2 x3 x4 : V} : [x0, x1, x2, x3, x4].length ≤ sizeLine := by show 5 ≤ sizeLine; decide
theorem ln6 {x0 x1 x2 x3 x4 x5 : V} : [x0, x1, x2, x3, x4, x5].length ≤ sizeLine := by show 6 ≤ sizeLine; decide
theorem ln7 {x0 x1 x2 x3 x4 x5 x6 : V} : [x0, x1, x2, x3, x4, x5, x6].length ≤ sizeLine := by show 7 ≤ sizeLine; decide
theorem ln8 {x0 x1 x2 x3 x4 x5 x6 x7 : V} : [x0, x1, x2, x3, x4, x5, x6, x7].length ≤ sizeLine := by show 8 ≤ sizeLine; decide
/-! ### data of tuples alone: what never changes -/
mutual
inductive Dt (K : PySem.W.Frag) (H : Hp) : V → PyData → Prop
  | non : Dt K H .non .none
  | bl (b : Bool) : Dt K H (.bl b) (.bool b)
  | int (i : Int) : Dt K H (.int i) (.int i)
  | str (x : Str) : Dt K H (.str x) (.str x)
  | tup {a : Addr} {xs : List V} {ds : List PyData} : SqT K H a xs → DtAll K H xs ds → Dt K H (.ref a) (.tuple ds)
inductive DtAll (K : PySem.W.Frag) (H : Hp) : List V → List PyData → Prop
  | nil : DtAll K H [] []
  | cons {v : V} {vs : List V} {d : PyData} {ds : List PyData} : Dt K H v d → DtAll K H vs ds → DtAll K H (v :: vs) (d :: ds)
end
/-- tuples stand -/
def SameT (H H' : Hp) : Prop := ∀ b, (∀ xs, H b = some (.tup xs) → H' b = some (.tup xs)) ∧ ∀ o xs, H b = some (.frz o (.tup xs)) → H' b = some (.frz o (.tup xs))
theorem sT_of {H H' : Hp} (e : Same H H') : SameT H H' := fun b => ⟨fun _ h => e b _ h, fun _ _ h => e b _ h⟩
theorem SameT.refl (H : Hp) : SameT H H := fun _ => ⟨fun _ h => h, fun _ _ h => h⟩
theorem SameT.trans {H H1 H2 : Hp} (a : SameT H H1) (b : SameT H1 H2) : SameT H H2 := fun c => ⟨fun xs h => (b c).1 xs ((a c).1 xs h), fun o xs h => (b c).2 o xs ((a c).2 o xs h)⟩
theorem SameT.lst {H : Hp} {p : Addr} {xs : List V} {o : HO} (h : H p = some (.lst xs)) : SameT H (upd H p o) := fun b => by
  refine ⟨fun ys e => ?_, fun o' ys e => ?_⟩
  · have : b ≠ p := fun z => by rw [z, h] at e; cases e
    rw [upd_ne this]; exact e
  · have : b ≠ p := fun z => by rw [z, h] at e; cases e
    rw [upd_ne this]; exact e
theorem SameT.sq {K : PySem.W.Frag} {H H' : Hp} {a : Addr} {xs : List V} (e : SameT H H') (h : SqT K H a xs) : SqT K H' a xs := by
  rcases h with (h | ⟨o, h⟩) | h
  · exact .inl (.inl ((e _).1 _ h))
  · exact .inl (.inr ⟨o, (e _).2 _ _ h⟩)
  · exact .inr h
mutual
theorem Dt.keep {K : PySem.W.Frag} {H H' : Hp} (e : SameT H H') : ∀ (d : PyData) (v : V), Dt K H v d → Dt K H' v d
  | .none, _, h => by cases h; exact .non
  | .bool b, _, h => by cases h; exact .bl b
  | .int i, _, h => by cases h; exact .int i
  | .str x, _, h => by cases h; exact .str x
  | .list ds, _, h => by cases h
  | .tuple ds, _, h => by
    cases h with
    | tup hs ha => exact .tup (e.sq hs) (DtAll.keep e ds _ ha)
  | .dict _, _, h => by cases h
theorem DtAll.keep {K : PySem.W.Frag} {H H' : Hp} (e : SameT H H') : ∀ (ds : List PyData) (vs : List V), DtAll K H vs ds → DtAll K H' vs ds
  | [], _, h => by cases h; exact .nil
  | d :: ds, _, h => by
    cases h with
    | cons h1 h2 => exact .cons (Dt.keep e d _ h1) (DtAll.keep e ds _ h2)
end
mutual
theorem Dt.dp {K : PySem.W.Frag} {H : Hp} : ∀ (d : PyData) (v : V), Dt K H v d → Dp K H v d
  | .none, _, h => by cases h; exact .non
  | .bool b, _, h => by cases h; exact .bl b
  | .int i, _, h => by cases h; exact .int i
  | .str x, _, h => by cases h; exact .str x
  | .list ds, _, h => by cases h
  | .tuple ds, _, h => by
    cases h with
    | tup hs ha => exact .tup hs (DtAll.dp ds _ ha)
  | .dict _, _, h => by cases h
theorem DtAll.dp {K : PySem.W.Frag} {H : Hp} : ∀ (ds : List PyData) (vs : List V), DtAll K H vs ds → DpAll K H vs ds
  | [], _, h => by cases h; exact .nil
  | d :: ds, _, h => by
    cases h with
    | cons h1 h2 => exact .cons (Dt.dp d _ h1) (DtAll.dp ds _ h2)
end
section
variable {K : PySem.W.Frag} {H H' : Hp}
theorem Dt.k {v : V} {d : PyData} (h : Dt K H v d) (e : SameT H H') : Dt K H' v d := Dt.keep e d v h
theorem DtAll.k {vs : List V} {ds : List PyData} (h : DtAll K H vs ds) (e : SameT H H') : DtAll K H' vs ds := DtAll.keep e ds vs h
theorem DtAll.len : ∀ {vs : List V} {ds : List PyData}, DtAll K H vs ds → vs.length = ds.length
  | _, _, .nil => rfl
  | _, _, .cons _ t => congrArg (· + 1) (DtAll.len t)
theorem DtAll.get : ∀ {vs : List V} {ds : List PyData} {i : Nat} {d : PyData}, DtAll K H vs ds → ds[i]? = some d → ∃ v, vs[i]? = some v ∧ Dt K H v d
  | _, _, _, _, .nil, e => by simp at e
  | _, _, 0, _, .cons h _, e => by simp at e; subst e; exact ⟨_, rfl, h⟩
  | _, _, i + 1, d, .cons _ t, e => by
    obtain ⟨v, h1, h2⟩ := DtAll.get (i := i) (d := d) t (by simpa using e)
    exact ⟨v, by simpa using h1, h2⟩
theorem DtAll.map {α : Type} {f : α → V} {g : α → PyData} (h : ∀ x, Dt K H (f x) (g x)) : ∀ xs : List α, DtAll K H (xs.map f) (xs.map g)
  | [] => .nil
  | x :: xs => .cons (h x) (DtAll.map h xs)
theorem DtAll.app : ∀ {vs ws : List V} {ds es : List PyData}, DtAll K H vs ds → DtAll K H ws es → DtAll K H (vs ++ ws) (ds ++ es)
  | _, _, _, _, .nil, s => s
  | _, _, _, _, .cons h t, s => .cons h (DtAll.app t s)
theorem DtAll.snoc {vs : List V} {ds : List PyData} {v : V} {d : PyData} (a : DtAll K H vs ds) (b : Dt K H v d) : DtAll K H (vs ++ [v]) (ds ++ [d]) := a.app (.cons b .nil)
theorem Dt.tupE {v : V} {ds : List PyData} (h : Dt K H v (.tuple ds)) : ∃ a xs, v = .ref a ∧ SqT K H a xs ∧ DtAll K H xs ds := by
  cases h with
  | tup hs ha => exact ⟨_, _, rfl, hs, ha⟩
theorem Dt.intE {v : V} {i : Int} (h : Dt K H v (.int i)) : v = .int i := by cases h; rfl
theorem DtAll.ints : ∀ {ns : List Int} {vs : List V}, DtAll K H vs (ns.map .int) → vs = ns.map V.int
  | [], _, h => by cases h; rfl
  | n :: ns, _, h => by
    cases h with
    | cons h1 h2 => rw [Dt.intE h1, DtAll.ints h2]; rfl
theorem DtAll.ofInts (ns : List Int) : DtAll K H (ns.map V.int) (ns.map .int) := DtAll.map (fun i => .int i) ns
/-- an item of a tuple of data -/
theorem Dt.item {v : V} {ds : List PyData} {i : Nat} {d : PyData} (h : Dt K H v (.tuple ds)) (e : ds[i]? = some d) : ∃ a xs w, v = .ref a ∧ SqT K H a xs ∧ xs[i]? = some w ∧ Dt K H w d := by
  obtain ⟨a, xs, rfl, hs, ha⟩ := h.tupE
  obtain ⟨w, h1, h2⟩ := ha.get e
  exact ⟨a, xs, w, rfl, hs, h1, h2⟩
end
/-! ### machines -/
structure Mac where
  steps : List (List Nat)
  start : Nat
  good : List Nat
def nD (n : Nat) : PyData := .int (n : Int)
def rowD (r : List Nat) : PyData := .tuple (r.map nD)
def macD (M : Mac) : PyData := .tuple [.tuple (M.steps.map rowD), nD M.start, rowD M.good]
structure MacOk (M : Mac) (n m : Nat) : Prop where
  len : M.steps.length = n
  row : ∀ r ∈ M.steps, r.length = m ∧ ∀ s ∈ r, s < n
  start : M.start < n
  good : ∀ s ∈ M.good, s < n
  asc : M.good.Pairwise (· < ·)
def iV (n : Nat) : V := .int (n : Int)
def spMachine (K : PySem.W.Frag) : Sp := fun vs H Q _ => ∃ (c : Int) (n m : Nat), vs = [.int c, .int (n : Int), .int (m : Int)] ∧ 1 ≤ n ∧ n ≤ 10 ∧ 1 ≤ m ∧ m ≤ 4 ∧
  ∀ (H' : Hp) (v : V) (M : Mac), Same H H' → Dt K H' v (macD M) → MacOk M n m → Q v H'
theorem cut_drop (xs : List V) (k : Nat) : cutV xs (some (k : Int)) none = xs.drop k := by
  unfold cutV
  rw [HT.sIx_nat, HT.sIx_none]
  by_cases h : k ≤ xs.length
  · rw [Nat.min_eq_left h]
    refine List.take_of_length_le ?_
    rw [List.length_drop]
    exact Nat.le_refl _
  · rw [Nat.min_eq_right (by omega), List.drop_eq_nil_of_le (Nat.le_refl _), List.drop_eq_nil_of_le (by omega), List.take_nil]
theorem menu8 {j : Nat} (h : j < 8) : ∃ d : Int, [V.int 1, V.int 2, V.int 4, V.int 8, V.int 16, V.int 32, V.int 64, V.int 125][j]? = some (.int d) ∧ 0 < d ∧ d < 1073741824 := by
  match j, h with
  | 0, _ => exact ⟨1, rfl, by decide, by decide⟩
  | 1, _ => exact ⟨2, rfl, by decide, by decide⟩
  | 2, _ => exact ⟨4, rfl, by decide, by decide⟩
  | 3, _ => exact ⟨8, rfl, by decide, by decide⟩
  | 4, _ => exact ⟨16, rfl, by decide, by decide⟩
  | 5, _ => exact ⟨32, rfl, by decide, by decide⟩
  | 6, _ => exact ⟨64, rfl, by decide, by decide⟩
  | 7, _ => exact ⟨125, rfl, by decide, by decide⟩
theorem nat_of {z c : Int} (h0 : 0 ≤ z) (h1 : z < c) : ∃ k : Nat, z = (k : Int) ∧ (k : Int) < c := ⟨z.toNat, by omega, by omega⟩
theorem ints_nat (r : List Nat) : (r.map iV) = (r.map fun n : Nat => (n : Int)).map V.int := by rw [List.map_map]; rfl
theorem ofNats {K : PySem.W.Frag} {H : Hp} (r : List Nat) : DtAll K H (r.map iV) (r.map nD) := DtAll.map (α := Nat) (f := iV) (g := nD) (fun n => .int (n : Int)) r
theorem nats_of {ms : List Int} {c : Int} (h : ∀ z ∈ ms, 0 ≤ z ∧ z < c) : ∃ r : List Nat, ms = r.map (fun n : Nat => (n : Int)) ∧ ∀ s ∈ r, (s : Int) < c := by
  refine ⟨ms.map Int.toNat, ?_, fun s hs => ?_⟩
  · rw [List.map_map]
    refine ((List.map_id ms).symm.trans (List.map_congr_left fun z hz => ?_))
    have := (h z hz).1
    show z = ((z.toNat : Nat) : Int)
    omega
  · obtain ⟨z, hz, rfl⟩ := List.mem_map.mp hs
    have := h z hz
    omega
/-! ### where words lead -/
def stepM (M : Mac) (s c : Nat) : Nat := (M.steps.getD s []).getD (c - 97) 0
def leadM (M : Mac) (s : Nat) (w : List Nat) : Nat := w.foldl (stepM M) s
def accM (M : Mac) (w : List Nat) : Bool := decide (leadM M M.start w ∈ M.good)
/-- codes of the first m letters -/
def isW (m : Nat) (w : List Nat) : Prop := ∀ c ∈ w, 97 ≤ c ∧ c < 97 + m
theorem isW.app {m : Nat} {u w : List Nat} (a : isW m u) (b : isW m w) : isW m (u ++ w) := fun c hc => (List.mem_append.mp hc).elim (a c) (b c)
theorem isW.take {m : Nat} {w : List Nat} (a : isW m w) (i : Nat) : isW m (w.take i) := fun c hc => a c (List.mem_of_mem_take hc)
theorem isW.rep {m : Nat} {w : List Nat} (a : isW m w) (k : Nat) : isW m (List.replicate k w).flatten := fun c hc => by
  obtain ⟨l, hl, hc⟩ := List.mem_flatten.mp hc
  rw [(List.mem_replicate.mp hl).2] at hc
  exact a c hc
theorem MacOk.rowAt {M : Mac} {n m s : Nat} (h : MacOk M n m) (hs : s < n) : (M.steps.getD s []).length = m ∧ ∀ t ∈ M.steps.getD s [], t < n := by
  have hs' : s < M.steps.length := by rw [h.len]; exact hs
  rw [List.getD_eq_getElem?_getD, List.getElem?_eq_getElem hs']
  exact h.row _ (List.getElem_mem hs')
theorem getD_mem {l : List Nat} {j : Nat} (h : j < l.length) : l.getD j 0 ∈ l := by
  rw [List.getD_eq_getElem?_getD, List.getElem?_eq_getElem h]
  exact List.getElem_mem h
theorem MacOk.step {M : Mac} {n m s c : Nat} (h : MacOk M n m) (hs : s < n) (h0 : 97 ≤ c) (h1 : c < 97 + m) : stepM M s c < n := by
  obtain ⟨hl, hr⟩ := h.rowAt hs
  exact hr _ (getD_mem (by rw [hl]; omega))
theorem leadM_lt {M : Mac} {n m : Nat} (h : MacOk M n m) : ∀ (w : List Nat) (s : Nat), s < n → isW m w → leadM M s w < n
  | [], s, hs, _ => hs
  | c :: w, s, hs, hw => leadM_lt h w _ (h.step hs (hw c List.mem_cons_self).1 (hw c List.mem_cons_self).2) fun d hd => hw d (List.mem_cons_of_mem _ hd)
theorem leadM_snoc (M : Mac) (s : Nat) (w : List Nat) (c : Nat) : leadM M s (w ++ [c]) = stepM M (leadM M s w) c := by
  unfold leadM
  rw [List.foldl_append]
  rfl
section
variable {K : PySem.W.Frag} {H : Hp}
theorem rowE {v : V} {r : List Nat} (h : Dt K H v (rowD r)) : ∃ p, v = .ref p ∧ SqT K H p (r.map iV) := by
  obtain ⟨p, xs, rfl, hs, ha⟩ := h.tupE
  refine ⟨p, rfl, ?_⟩
  have e : r.map nD = (r.map fun n : Nat => (n : Int)).map PyData.int := by rw [List.map_map]; rfl
  rw [e] at ha
  rw [ints_nat, ← ha.ints]
  exact hs
theorem macE {v : V} {M : Mac} (h : Dt K H v (macD M)) : ∃ a st gd vs, v = .ref a ∧ SqT K H a [.ref st, iV M.start, .ref gd] ∧ SqT K H st vs ∧ DtAll K H vs (M.steps.map rowD) ∧ SqT K H gd (M.good.map iV) := by
  obtain ⟨a, xs, rfl, hs, ha⟩ := h.tupE
  cases ha with
  | cons h1 t1 =>
  cases t1 with
  | cons h2 t2 =>
  cases t2 with
  | cons h3 t3 =>
  cases t3
  obtain ⟨st, vs, rfl, hst, hvs⟩ := h1.tupE
  obtain ⟨gd, rfl, hg⟩ := rowE h3
  have e := Dt.intE h2
  subst e
  exact ⟨a, st, gd, vs, rfl, hs, hst, hvs, hg⟩
theorem rowsE {vs : List V} {M : Mac} {s : Nat} (h : DtAll K H vs (M.steps.map rowD)) (hs : s < M.steps.length) : ∃ p, vs[s]? = some (.ref p) ∧ SqT K H p ((M.steps.getD s []).map iV) := by
  obtain ⟨w, h1, h2⟩ := h.get (i := s) (d := rowD M.steps[s]) (by rw [List.getElem?_map, List.getElem?_eq_getElem hs]; rfl)
  obtain ⟨p, rfl, hp⟩ := rowE h2
  refine ⟨p, h1, ?_⟩
  rw [List.getD_eq_getElem?_getD, List.getElem?_eq_getElem hs]
  exact hp
theorem at_nat {r : List Nat} {z : Int} {j : Nat} (e : z = (j : Int)) (h : j < r.length) : atI (r.map iV) z = some (iV (r.getD j 0)) := by
  refine at_of e ?_
  rw [List.getElem?_map, List.getD_eq_getElem?_getD, List.getElem?_eq_getElem h]
  rfl
end
theorem let_ix {c m : Nat} (h0 : 97 ≤ c) (h1 : c < 97 + m) (hm : m ≤ 4) : [97, 98, 99, 100][c - 97]? = some c := by
  have h : c = 97 ∨ c = 98 ∨ c = 99 ∨ c = 100 := by omega
  rcases h with rfl | rfl | rfl | rfl <;> rfl
theorem inV_nat (k : Nat) (g : List Nat) : inV (iV k) (g.map iV) = decide (k ∈ g) := by
  unfold inV
  rw [List.any_map]
  by_cases h : k ∈ g
  · rw [decide_eq_true h]
    exact List.any_eq_true.mpr ⟨k, h, by show ((k : Int) == (k : Int)) = true; exact beq_self_eq_true _⟩
  · rw [decide_eq_false h]
    refine List.any_eq_false.mpr fun y hy e => h ?_
    have e2 : ((y : Int) == (k : Int)) = true := e
    have e3 : (y : Int) = (k : Int) := eq_of_beq e2
    have : y = k := by omega
    rw [← this]; exact hy
theorem flat_nats (g : List Nat) : (g.map iV).all flatV = true := by
  refine List.all_eq_true.mpr fun x hx => ?_
  obtain ⟨n, _, rfl⟩ := List.mem_map.mp hx
  rfl
def spLead (K : PySem.W.Frag) : Sp := fun vs H Q _ => ∃ (v : V) (M : Mac) (n m s : Nat) (w : List Nat), vs = [v, iV s, sV w] ∧ Dt K H v (macD M) ∧ MacOk M n m ∧ m ≤ 4 ∧ s < n ∧ isW m w ∧ Q (iV (leadM M s w)) H
def spAcc (K : PySem.W.Frag) : Sp := fun vs H Q _ => ∃ (v : V) (M : Mac) (n m : Nat) (w : List Nat), vs = [v, sV w] ∧ Dt K H v (macD M) ∧ MacOk M n m ∧ m ≤ 4 ∧ isW m w ∧ Q (.bl (accM M w)) H
def abcdG (m : Nat) : List Nat := List.take m [97, 98, 99, 100]
theorem abcdG_len {m : Nat} (h : m ≤ 4) : (abcdG m).length = m := by
  unfold abcdG
  rw [List.length_take]
  exact Nat.min_eq_left h
def spLetters (K : PySem.W.Frag) : Sp := fun vs H Q _ => ∃ (v : V) (M : Mac) (n m : Nat), vs = [v] ∧ Dt K H v (macD M) ∧ MacOk M n m ∧ 1 ≤ n ∧ m ≤ 4 ∧ Q (sV (abcdG m)) H
def spWord (K : PySem.W.Frag) : Sp := fun vs H Q _ => ∃ (c : Int) (m : Nat), vs = [.int c, .int (m : Int)] ∧ 1 ≤ m ∧ m ≤ 4 ∧
  ∀ (H' : Hp) (w : List Nat), Same H H' → w.length ≤ 14 → isW m w → Q (sV w) H'
theorem foldl_signs : ∀ (cs : List Nat) (acc : Array Nat), (cs.map fun c => (⟨#[c]⟩ : Str)).foldl (fun acc p => acc ++ (⟨#[]⟩ : Str).cps ++ p.cps) acc = acc ++ cs.toArray
  | [], acc => by simp
  | c :: cs, acc => by
    rw [List.map_cons, List.foldl_cons, foldl_signs cs]
    apply Array.ext'
    simp
theorem join_signs (cs : List Nat) : Txt.join (Str.ofString "") (cs.map fun c => (⟨#[c]⟩ : Str)) = ⟨cs.toArray⟩ := by
  have e0 : Str.ofString "" = (⟨#[]⟩ : Str) := by decide +kernel
  rw [e0]
  cases cs with
  | nil => rfl
  | cons c cs =>
    show (⟨((cs.map fun c => (⟨#[c]⟩ : Str)).foldl (fun acc p => acc ++ (⟨#[]⟩ : Str).cps ++ p.cps) #[c])⟩ : Str) = ⟨(c :: cs).toArray⟩
    rw [foldl_signs]
    congr 1
    apply Array.ext'
    simp
theorem cutV_map {α : Type} (f : α → V) (xs : List α) (lo hi : Option Int) : ∃ ys : List α, cutV (xs.map f) lo hi = ys.map f ∧ ys.length ≤ xs.length ∧ ∀ y ∈ ys, y ∈ xs := by
  refine ⟨(xs.drop (HT.sIx (xs.map f).length 0 lo)).take (HT.sIx (xs.map f).length (xs.map f).length hi - HT.sIx (xs.map f).length 0 lo), ?_, ?_, fun y hy => List.mem_of_mem_drop (List.mem_of_mem_take hy)⟩
  · unfold cutV
    rw [List.map_take, List.map_drop]
  · rw [List.length_take, List.length_drop]
    omega
theorem r_in {K : PySem.W.Frag} {H : Hp} {Q : VK} {k : Nat} {g : List Nat} {p : Addr} (h : SqT K H p (g.map iV)) (q : Q (.bl (decide (k ∈ g))) H) : rIn K false (iV k) (.ref p) H Q := ⟨p, _, rfl, .inr h, rfl, flat_nats g, by rw [← inV_nat] at q; exact q⟩
section
variable {σ : L2.St} {H : Hp} {Q : VK} {K : PySem.W.Frag} {ta tb tc : TE}
def rInSg : R2 := fun x y H Q => ∃ (c : Nat) (z : Str), x = .str ⟨#[c]⟩ ∧ y = .str z ∧ Q (.bl (decide (c ∈ z.cps.toList))) H
def rNotInSg : R2 := fun x y H Q => ∃ (c : Nat) (z : Str), x = .str ⟨#[c]⟩ ∧ y = .str z ∧ Q (.bl (!decide (c ∈ z.cps.toList))) H
theorem op_inSg {X : Cx} : OpR X (compareOp .In) rInSg := op_in_sign
theorem op_notInSg {X : Cx} : OpR X (compareOp .NotIn) rNotInSg := op_notIn_sign
theorem r_inSg {c : Nat} {l : List Nat} (q : Q (.bl (decide (c ∈ l))) H) : rInSg (.str ⟨#[c]⟩) (.str ⟨l.toArray⟩) H Q := ⟨c, _, rfl, rfl, q⟩
theorem r_notInSg {c : Nat} {l : List Nat} (q : Q (.bl (!decide (c ∈ l))) H) : rNotInSg (.str ⟨#[c]⟩) (.str ⟨l.toArray⟩) H Q := ⟨c, _, rfl, rfl, q⟩
theorem r_chain {r r' : R2} (h : ta σ H fun x H1 => tb σ H1 fun y H2 => r x y H2 fun z H3 => ∃ k, z = .bl k ∧ if k = true then tc σ H3 fun w' H4 => r' y w' H4 Q else Q (.bl false) H3) : tChain r r' ta tb tc σ H Q := h
theorem r_slT {p : Addr} {xs : List V} {lo hi : Option Int} (h : SqT K H p xs) (c : ¬ (HT.sIx xs.length 0 lo = 0 ∧ HT.sIx xs.length xs.length hi = xs.length)) (q : ∀ l, H l = none → Q (.ref l) (upd H l (.tup (cutV xs lo hi)))) : rSlT K (.ref p) lo hi H Q := ⟨p, xs, rfl, h, c, q⟩
theorem r_any {p : Addr} {bs : List Bool} (h : SqL K H p (bs.map V.bl)) (q : Q (.bl (bs.any id)) H) : rAny K [.ref p] H Q := ⟨p, bs, rfl, h, q⟩
theorem r_eqD {x y : V} {d e : PyData} (h1 : Dp K H x d) (h2 : Dp K H y e) (s1 : SeqAt.shaped d = true) (s2 : SeqAt.shaped e = true) (q : Q (.bl (PyData.eqv d e)) H) : rEqD K x y H Q := ⟨d, e, h1, h2, s1, s2, q⟩
theorem r_neD {x y : V} {d e : PyData} (h1 : Dp K H x d) (h2 : Dp K H y e) (s1 : SeqAt.shaped d = true) (s2 : SeqAt.shaped e = true) (q : Q (.bl (!PyData.eqv d e)) H) : rNeD K x y H Q := ⟨d, e, h1, h2, s1, s2, q⟩
end
theorem lay_ints : ∀ A : List Int, PyData.canLayAll0 (A.map .int) = true
  | [] => rfl
  | a :: A => by
    have ih := lay_ints A
    simp [PyData.canLayAll0, PyData.canLay0] at ih ⊢
    exact ih
theorem eqv_ints_all : ∀ A B : List Int, PyData.eqvAll (A.map .int) (B.map .int) = decide (A = B)
  | [], [] => rfl
  | [], b :: B => rfl
  | a :: A, [] => rfl
  | a :: A, b :: B => by
    show (a == b && PyData.eqvAll (A.map .int) (B.map .int)) = _
    rw [eqv_ints_all A B]
    by_cases h : a = b
    · subst h
      by_cases h2 : A = B
      · subst h2; simp
      · simp [h2]
    · simp [h]
theorem depth_ints : ∀ A : List Int, PyData.depthAll (A.map .int) = 0
  | [] => rfl
  | a :: A => by
    have ih := depth_ints A
    show max 0 _ = 0
    rw [ih]
    rfl
theorem shaped_ints (A : List Int) : SeqAt.shaped (.list (A.map .int)) = true := by
  refine Bool.and_eq_true_iff.mpr ⟨lay_ints A, decide_eq_true ?_⟩
  show PyData.depthAll _ + 1 ≤ 64
  rw [depth_ints]
  decide
theorem eqv_lists (A B : List Int) : PyData.eqv (.list (A.map .int)) (.list (B.map .int)) = decide (A = B) := by
  rw [PyData.eqv]
  exact eqv_ints_all A B
theorem dp_ints {K : PySem.W.Frag} {H : Hp} {p : Addr} {A : List Int} (h : SqL K H p (A.map V.int)) : Dp K H (.ref p) (.list (A.map .int)) := .lst h (dpAll_map (fun i => .int i) A)
theorem cut_1 (xs : List V) : cutV xs (some 1) none = xs.drop 1 := cut_drop xs 1
theorem six_1 (n : Nat) : HT.sIx n 0 (some 1) = min 1 n := HT.sIx_nat n 0 1
/-- the ways behind a statement are joined: what holds there -/
theorem r_cutJ {t u : TS} {D : Ends} {σ : L2.St} {H : Hp} (J : L2.St → Hp → Prop) (key : ∀ σ H, J σ H → u D σ H) (h : (∀ σ H, J σ H → u D σ H) → t { D with nx := u D } σ H) : tSeq t u D σ H := h key
theorem six_m1 (n d : Nat) : HT.sIx n d (some (-1)) = n - 1 := by
  show (if (-1 : Int) < 0 then ((-1 : Int) + (n : Int)).toNat else min (-1 : Int).toNat n) = n - 1
  rw [if_pos (by decide)]
  omega
theorem cut_init (xs : List V) (y : V) : cutV (xs ++ [y]) none (some (-1)) = xs := by
  unfold cutV
  rw [HT.sIx_none, six_m1, List.length_append]
  simp
theorem cut_mid (xs : List V) (j : Nat) : (cutV xs (some (j : Int)) (some (-1))).length = xs.length - 1 - j := by
  unfold cutV
  rw [HT.sIx_nat, six_m1, List.length_take, List.length_drop]
  omega
theorem cut_to (xs : List V) (k : Nat) (h : k ≤ xs.length) : cutV xs none (some (k : Int)) = xs.take k := by
  unfold cutV
  rw [HT.sIx_none, HT.sIx_nat, Nat.min_eq_left h]
  rfl
theorem inV_int (k : Int) (g : List Int) : inV (.int k) (g.map V.int) = decide (k ∈ g) := by
  unfold inV
  rw [List.any_map]
  by_cases h : k ∈ g
  · rw [decide_eq_true h]
    exact List.any_eq_true.mpr ⟨k, h, by show (k == k) = true; exact beq_self_eq_true _⟩
  · rw [decide_eq_false h]
    refine List.any_eq_false.mpr fun y hy e => h ?_
    have e2 : (y == k) = true := e
    rw [← eq_of_beq e2]; exact hy
theorem flat_ints (g : List Int) : (g.map V.int).all flatV = true := by
  refine List.all_eq_true.mpr fun x hx => ?_
  obtain ⟨n, _, rfl⟩ := List.mem_map.mp hx
  rfl
section
variable {K : PySem.W.Frag} {H : Hp} {Q : VK} {p : Addr}
theorem r_inT {k : Int} {g : List Int} (h : SqT K H p (g.map V.int)) (q : Q (.bl (decide (k ∈ g))) H) : rIn K false (.int k) (.ref p) H Q := ⟨p, _, rfl, .inr h, rfl, flat_ints g, by rw [← inV_int] at q; exact q⟩
theorem r_inL {k : Int} {g : List Int} (h : SqL K H p (g.map V.int)) (q : Q (.bl (decide (k ∈ g))) H) : rIn K false (.int k) (.ref p) H Q := ⟨p, _, rfl, .inl h, rfl, flat_ints g, by rw [← inV_int] at q; exact q⟩
theorem mt_indexLK {X : Cx} (hK : X.K = K) : MtR X "list.index" (rIndex K) := hK ▸ mt_index
theorem r_indexL {k : Int} {g : List Int} (h : SqL K H p (g.map V.int)) (hk : k ∈ g) (q : Q (.int (g.idxOf k : Nat)) H) : rIndex K (.ref p) [.int k] H Q := by
  have hl := List.idxOf_lt_length_of_mem hk
  refine ⟨p, _, .int k, g.idxOf k, .int k, rfl, rfl, h, rfl, flat_ints g, ?_, ?_, fun m z' hm hz => ?_, q⟩
  · rw [List.getElem?_map, List.getElem?_eq_getElem hl, List.getElem_idxOf hl]
    rfl
  · show (k == k) = true
    exact beq_self_eq_true _
  · rw [List.getElem?_map] at hz
    obtain ⟨y, hy, rfl⟩ := Option.map_eq_some_iff.mp hz
    show (y == k) = false
    obtain ⟨hml, ey⟩ := List.getElem?_eq_some_iff.mp hy
    have := List.not_of_lt_findIdx (p := (· == k)) (xs := g) (i := m) hm
    rw [ey] at this
    simpa using this
theorem r_rep {l : Addr} {k : Int} {xs : List V} (h : H l = some (.lst xs)) (h0 : 0 ≤ k) (h1 : k ≤ 1000000) (hl : xs.length * k.toNat ≤ sizeLine) (q : ∀ p, H p = none → Q (.ref p) (upd H p (.lst (List.replicate k.toNat xs).flatten))) : rRep (.ref l) (.int k) H Q := ⟨l, k, xs, rfl, rfl, h, by omega, by omega, hl, q⟩
end
def sgD (c : Nat) : PyData := .str ⟨#[c]⟩
def sgV (c : Nat) : V := .str ⟨#[c]⟩
theorem lay_signs : ∀ A : List Nat, (∀ c ∈ A, c < 1000) → PyData.canLayAll0 (A.map sgD) = true
  | [], _ => rfl
  | a :: A, h => by
    have ih := lay_signs A fun c hc => h c (List.mem_cons_of_mem _ hc)
    have ha := h a List.mem_cons_self
    show (PyData.strOk ⟨#[a]⟩ && PyData.canLayAll0 (A.map sgD)) = true
    rw [ih, Bool.and_true]
    unfold PyData.strOk
    simp
    omega
theorem depth_signs : ∀ A : List Nat, PyData.depthAll (A.map sgD) = 0
  | [] => rfl
  | a :: A => by
    have ih := depth_signs A
    show max 0 _ = 0
    rw [ih]
    rfl
theorem shaped_signs {A : List Nat} (h : ∀ c ∈ A, c < 1000) : SeqAt.shaped (.list (A.map sgD)) = true := by
  refine Bool.and_eq_true_iff.mpr ⟨lay_signs A h, decide_eq_true ?_⟩
  show PyData.depthAll _ + 1 ≤ 64
  rw [depth_signs]
  decide
theorem eqv_signs_nil (A : List Nat) : PyData.eqv (.list (A.map sgD)) (.list []) = decide (A = []) := by
  rw [PyData.eqv]
  cases A <;> rfl
theorem dp_signs {K : PySem.W.Frag} {H : Hp} {p : Addr} {A : List Nat} (h : SqL K H p (A.map sgV)) : Dp K H (.ref p) (.list (A.map sgD)) := .lst h (dpAll_map (fun c => .str _) A)
end G
set_option Elab.async false
set_option linter.all false
set_option maxRecDepth 100000
set_option maxHeartbeats 4000000
namespace G
open PySem PySem.Spec PyProof.Rows L2
/-! enumerate of a tuple -/
theorem en_new (l : Addr) (items : Array Value) (n : Nat) (dct : Option Addr) (sl : Array (Option Value)) :
    Meets (Builtin.«enumerate.__new__» ⟨[.type "enumerate", .ref l], []⟩) (fun _ R s =>
      s.heap.get? l = some { cls := .type "tuple", dict := dct, data := .seq items n, slots := sl } ∧
      R (.ok (.ret (.ref (s.heap.push { cls := .type "tuple_iterator", data := .fields #[.ref l, .int 0 0] }).objs.size)))
        { s with heap := (s.heap.push { cls := .type "tuple_iterator", data := .fields #[.ref l, .int 0 0] }).push { cls := .type "enumerate", data := .fields #[.none, .bool false, .ref s.heap.objs.size, rawInt 0, .none, .none] } }) :=
  .of_wp fun prog w A R s h => by
    obtain ⟨hp, g, d, tk, os⟩ := s
    obtain ⟨hl, h⟩ := h
    have hsub := sub_enumerate
    have hT : Heap.IsTuple (Shared.heap ⟨hp, g, d, tk, os⟩) l items := ⟨_, hl, rfl, n, rfl⟩
    (wp_walk using AutoSeq1.wpAny_loadPart' hl); refine wpAny_stack_any fun st => wpAny_pure ?_; split
    · rename_i c _ _ _ _ _
      cases (c == Value.type "enumerate") <;> (wp_walk using AutoSeq1.wpAny_loadPart' hl, wpAny_pyIter_tuple hT) <;> exact ⟨_, rfl, h⟩
    · (wp_walk using AutoSeq1.wpAny_loadPart' hl, wpAny_pyIter_tuple hT); exact ⟨_, rfl, h⟩
section
variable {prog : Program} {w : World} {A : Around} {E : Value → Shared → Prop} {s : Shared}
theorem call_en {l : Addr} {items : Array Value} {Q : Value → Shared → Prop} (hL : s.heap.IsTuple l items)
    (h : ∀ h', IsEnum h' (s.heap.objs.size + 1) s.heap.objs.size 0 .none → h'.IsTupleIter s.heap.objs.size l 0 →
      h'.objs.size = s.heap.objs.size + 2 → (∀ b o, s.heap.get? b = some o → h'.get? b = some o) →
      Q (.ref (s.heap.objs.size + 1)) { s with heap := h' }) : wpAny (model prog w) A (call (.type "enumerate") [.ref l]) Q E s := by
  obtain ⟨⟨c, dct, dt, sl⟩, hl, hc, n, hd⟩ := hL
  obtain rfl : c = .type "tuple" := hc
  obtain rfl : dt = .seq items n := hd
  have hz : (s.heap.push { cls := .type "tuple_iterator", data := .fields #[.ref l, .int 0 0] }).objs.size = s.heap.objs.size + 1 := Heap.size_push ..
  have he := Heap.get?_push_size (s.heap.push { cls := .type "tuple_iterator", data := .fields #[.ref l, .int 0 0] })
    (o := { cls := .type "enumerate", data := .fields #[.none, .bool false, .ref s.heap.objs.size, rawInt 0, .none, .none] }) rfl
  rw [hz] at he
  refine callType_new F.called_enumerate (by decide) (F.typeCall_enumerate_1 _) (F.newCall_enumerate_1 _)
    (fun obj => F.args_object_init_2 obj _) F.entry_enumerate_new (en_new l items n dct sl) ⟨hl, ?_⟩
  show _ ∧ _
  rw [hz]
  refine ⟨⟨_, he, rfl⟩, h _ he ⟨{ cls := .type "tuple_iterator", data := .fields #[.ref l, .int 0 0] }, Heap.get?_push_of_some _ (Heap.get?_push_size _ rfl), rfl, rfl⟩ ?_ ?_⟩
  · rw [Heap.size_push, hz]
  · exact fun b o x => Heap.get?_push_of_some _ (Heap.get?_push_of_some _ x)
end
/-- the tuple at a: each item in a new pair -/
def ItT (K : PySem.W.Frag) (a : Addr) : It where
  go i H := ∃ (xs : List V) (x : V), SqT K H a xs ∧ xs[i]? = some x
  yld i H v H' := ∃ T x, v = .ref T ∧ H T = none ∧ H' = upd H T (.tup [.int (i : Nat), x]) ∧ ∀ xs, SqT K H a xs → xs[i]? = some x
  stop i H := ∃ xs : List V, SqT K H a xs ∧ xs.length = i
theorem turn_T {P : Program} {w : World} {K : PySem.W.Frag} {elts : List Expr} {kk : Nat} {tpos : Pos} (a e it : Addr) :
    Turn P w K (.Tuple elts kk tpos) (ItT K a) [e, it] e (fun i h => (∃ old, IsEnum h e it ((i : Nat) : Int) old) ∧ h.IsTupleIter it a i ∧ e ≠ it) where
  mem := List.mem_cons_self
  obj := by
    rintro i h ⟨⟨old, he⟩, ⟨o, ho, hc, hd⟩, _⟩ b hb
    rcases List.mem_cons.mp hb with rfl | hb
    · exact ⟨_, he, fun v q => nomatch q⟩
    · rw [List.mem_singleton.mp hb]
      exact ⟨o, ho, fun v q => by rw [hd] at q; cases q⟩
  keep := by
    rintro i h h' ⟨⟨old, he⟩, hi, hne⟩ k
    exact ⟨⟨old, k e List.mem_cons_self _ he⟩, hi.at fun o q => k it (List.mem_cons_of_mem _ List.mem_cons_self) o q, hne⟩
  item := by
    rintro X rfl rfl rfl hc i pins s σ H E I hf ⟨⟨old, he⟩, hit, hne⟩ ⟨xs, x, hq, hx⟩
    obtain ⟨its, rv, p, hz⟩ := I.tuple hq
    obtain ⟨u, hu, ru⟩ := rv.get hx
    have hel : e < s.heap.objs.size := Heap.lt_size he
    have hil : it < s.heap.objs.size := by obtain ⟨_, q, _⟩ := hit; exact Heap.lt_size q
    have hae : a ≠ it := fun z => by
      obtain ⟨oi, hoi, hci, _⟩ := hit
      obtain ⟨oa, hoa, hca, _⟩ := p
      rw [z, hoi] at hoa
      cases hoa
      rw [hci] at hca
      injection hca with hca
      exact absurd hca (by decide)
    have hae2 : e ∉ [it, a] := fun z => by
      rcases List.mem_cons.mp z with z | z
      · exact hne z
      · have z := List.mem_singleton.mp z
        obtain ⟨oa, hoa, hca, _⟩ := p
        rw [← z, he] at hoa
        cases hoa
        injection hca with hca
        exact absurd hca (by decide)
    have hh : X.A.in1.handled = none := I.ok.hd hc
    have hi : i < its.toArray.size := by
      have := (List.getElem?_eq_some_iff.mp hu).1
      simpa using this
    refine wpAny_pyNext_enum_itemD (Draws.tuple hh it a hae its.toArray) he ⟨hit, show s.heap.IsTuple a its.toArray from p⟩ hi hne hae2 ?_
    intro x2 h' tk hx2 ho hst hT hsz hk
    have ex : x2 = u := by
      have h3 : its[i]? = some x2 := by simpa using hx2
      rw [hu] at h3
      exact (Option.some.inj h3).symm
    subst ex
    refine ⟨_, rfl, wpAny_letOwnedTupleGo_enum (s := { s with heap := h', toks := tk + 1 }) ho fun h'' he' sb => ?_⟩
    have hT2 : h''.get? s.heap.objs.size = some { cls := .type "tuple", data := .seq #[.int i tk, x2] } := (sb.2 _ (Nat.ne_of_gt hel)).trans hT
    have new : ObjOk X.prog X.w (upd H s.heap.objs.size (.tup [.int (i : Nat), x])) h'' s.heap.objs.size (.tup [.int (i : Nat), x]) := by
      refine ⟨by show 2 ≤ sizeLine; decide, [.int i tk, x2], .cons ⟨_, rfl⟩ (.cons ru .nil), ⟨_, hT2, rfl, _, rfl⟩⟩
    have stays : ∀ b ob, b ∉ [e, it] → s.heap.get? b = some ob → h''.get? b = some ob := fun b ob hb q => by
      have h1 : b ≠ e := fun z => hb (by rw [z]; exact List.mem_cons_self)
      have h2 : b ≠ it := fun z => hb (by rw [z]; exact List.mem_cons_of_mem _ List.mem_cons_self)
      exact (sb.2 b h1).trans (hk b ob h1 h2 q)
    have I1 := I.turnedNew (t' := tk + 1) (ch := [e, it]) stays hf (Nat.le_refl _) new
    have e1 : ((i + 1 : Nat) : Int) = (i : Int) + 1 := Int.natCast_succ i
    refine ⟨.ref s.heap.objs.size, _, I1, rfl, ⟨_, x, rfl, I.hok.fresh (Nat.le_refl _), rfl, fun ys hy => ?_⟩, ⟨⟨x2, ?_⟩, ?_, hne⟩, fun b hb => ?_⟩
    · rw [I.tuple_inj hy hq]
      exact hx
    · rw [e1]
      exact he'
    · exact hst.1.at fun o q => (sb.2 it (Ne.symm hne)).trans q
    · have hb' : b < s.heap.objs.size := by
        rcases List.mem_cons.mp hb with z | z
        · rw [z]; exact hel
        · rw [List.mem_singleton.mp z]; exact hil
      rw [upd_ne (Nat.ne_of_lt hb')]
      exact (hf b hb).1
  done := by
    rintro X rfl rfl rfl hc i pins s σ H E I hf ⟨⟨old, he⟩, hit, hne⟩ ⟨xs, hq, hx⟩
    obtain ⟨its, rv, p, hz⟩ := I.tuple hq
    obtain ⟨f0, f1, f2, f3, f4, f5⟩ := hf it (List.mem_cons_of_mem _ List.mem_cons_self)
    have hl := rv.length
    have hh : X.A.in1.handled = none := I.ok.hd hc
    have hae : a ≠ it := fun z => by
      obtain ⟨oi, hoi, hci, _⟩ := hit
      obtain ⟨oa, hoa, hca, _⟩ := p
      rw [z, hoi] at hoa
      cases hoa
      rw [hci] at hca
      injection hca with hca
      exact absurd hca (by decide)
    have ei : i = its.toArray.size := by rw [List.size_toArray, ← hl, hx]
    rw [ei] at hit
    exact wpAny_pyNext_enum_endD (Draws.tuple hh it a hae its.toArray) he ⟨hit, show s.heap.IsTuple a its.toArray from p⟩ fun h' eb =>
      ⟨rfl, I.turned (t' := s.toks) (fun b o hb q => eb b o hb q) f0 f1 f3 f4 f5⟩
  self := fun A i s Q E st h => by
    obtain ⟨⟨_, he⟩, _⟩ := st
    exact wpAny_pyIter_enum he h
def iEnumT (K : PySem.W.Frag) (ta : TA) : TI := fun σ H R => ta σ H fun vs H1 => ∃ a xs, vs = [.ref a] ∧ SqT K H1 a xs ∧ R (ItT K a) H1
theorem pi_enumT {X : Cx} {K : PySem.W.Frag} {e : Expr} {ta : TA} {p pos tpos : Pos} {elts : List Expr} {kk : Nat} (hK : X.K = K) (hg : Gl X "enumerate") (hm : X.mg "enumerate" = none) (ha : PA X [e] ta)
    (hs : starEach [e] X.env = [(false, eval e X.env)] := by rfl) : PI X (.Tuple elts kk tpos) (.Call (.Name "enumerate" p) [e] [] pos) (iEnumT K ta) := by
  subst hK
  constructor
  intro pins s σ H R I h
  refine Call_ (ld_blt I hg hm boot_enumerate (callWith_type1 (thn (ha.run pos pins s σ H _ I h) ?_) hs rfl))
  rintro us s1 ⟨vs, H1, I1, r1, a, xs, rfl, hq, q⟩
  obtain ⟨u, rfl, ru⟩ := vals1 r1
  cases ru
  obtain ⟨its, rv, p', hz⟩ := I1.tuple hq
  refine call_en (show s1.heap.IsTuple a its.toArray from p') fun h' he hit hsz hk => wpAny_pyIter_enum he ?_
  have I2 : Inv X pins σ H1 { s1 with heap := h' } := I1.kept (t' := s1.toks) hk
  refine ⟨_, [s1.heap.objs.size + 1, s1.heap.objs.size], _, _, H1, rfl, I2, turn_T a (s1.heap.objs.size + 1) s1.heap.objs.size, ⟨⟨.none, he⟩, hit, Nat.succ_ne_self _⟩, fun b hb => ?_, q⟩
  have hle : s1.heap.objs.size ≤ b := by
    rcases List.mem_cons.mp hb with z | z
    · rw [z]; exact Nat.le_add_right _ _
    · rw [List.mem_singleton.mp z]; exact Nat.le_refl _
  exact I1.fpOk hle (I1.hok.fresh hle)
/-- the loop over such pairs, i and x given to two names -/
theorem for_enT {K : PySem.W.Frag} {a : Addr} {xs : List V} {g : TG} {tb : TS} {D : Ends} {σ : L2.St} {H : Hp} (Pv : Nat → L2.St → Hp → Prop) (h0 : Pv 0 σ H) (hl : ∀ i σ H, i ≤ xs.length → Pv i σ H → SqT K H a xs)
    (hs : ∀ i x σ H T, xs[i]? = some x → Pv i σ H → H T = none → g (.ref T) σ (upd H T (.tup [.int (i : Nat), x])) fun σ2 H2 => tb { D with nx := Pv (i + 1), ct := Pv (i + 1), bk := D.nx } σ2 H2) (hd : ∀ σ H, Pv xs.length σ H → D.nx σ H) :
    ∃ W : Nat → Nat → L2.St → Hp → Prop, (∃ m, W 0 m σ H) ∧ ∀ i m σ H, W i m σ H → ((ItT K a).stop i H ∧ D.nx σ H) ∨
      ((ItT K a).go i H ∧ ∃ N : L2.St → Hp → Prop, (∀ σ' H', N σ' H' → ∃ m', m' < m ∧ W (i + 1) m' σ' H') ∧ ∀ x H', (ItT K a).yld i H x H' → g x σ H' fun σ2 H2 => tb { D with nx := N, ct := N, bk := D.nx } σ2 H2) := by
  refine ⟨fun i m σ H => m + i = xs.length ∧ Pv i σ H, ⟨xs.length, rfl, h0⟩, ?_⟩
  rintro i m σ H ⟨hm, p⟩
  have q := hl i σ H (by omega) p
  by_cases hlt : i < xs.length
  · refine .inr ⟨⟨xs, xs[i], q, List.getElem?_eq_getElem hlt⟩, Pv (i + 1), fun σ' H' p' => ⟨m - 1, by omega, by omega, p'⟩, ?_⟩
    rintro v H' ⟨T, x, rfl, hT, rfl, hx⟩
    exact hs i x σ H T (hx xs q) p hT
  · have e : i = xs.length := by omega
    subst e
    exact .inl ⟨⟨xs, q, rfl⟩, hd σ H p⟩
end G
set_option Elab.async false
set_option linter.all false
set_option maxRecDepth 100000
set_option maxHeartbeats 4000000
namespace G
open PySem PySem.Spec PyProof.Rows L2
section
variable {X : Cx} {H : Hp} {Q : VK}
def rLcm : List V → Hp → VK → Prop := fun xs H Q => ∃ a b : Nat, xs = [.int (a : Int), .int (b : Int)] ∧ a < 2 ^ 64 ∧ b < 2 ^ 64 ∧ Q (.int ((Nat.lcm a b : Nat) : Int)) H
theorem call_lcm : CallR X (.builtin "math.lcm") rLcm := by
  intro pins s σ H vs us Q I r h
  obtain ⟨a, b, rfl, ha, hb, q⟩ := h
  obtain ⟨t, u, rfl⟩ := Vals.int2 r
  exact PySem.W.mc_lcm (by rw [Int.natAbs_natCast]; exact ha) (by rw [Int.natAbs_natCast]; exact hb) fun _ => ⟨.int _, H, I.tok _, ⟨_, rfl⟩, q⟩
end
/-! ### permutations -/
structure Perm (n : Nat) (p : List Nat) : Prop where
  len : p.length = n
  lt : ∀ x ∈ p, x < n
  nd : p.Nodup
def at0 (p : List Nat) (i : Nat) : Nat := p.getD i 0
def thenN (p q : List Nat) : List Nat := p.map (at0 q)
def idN (n : Nat) : List Nat := List.range n
def itr (p : List Nat) : Nat → Nat → Nat
  | 0, i => i
  | k + 1, i => at0 p (itr p k i)
def pw (p : List Nat) : Nat → List Nat
  | 0 => idN p.length
  | k + 1 => thenN (pw p k) p
theorem at0_some {p : List Nat} {i : Nat} (h : i < p.length) : p[i]? = some (at0 p i) := by
  unfold at0
  rw [List.getD_eq_getElem?_getD, List.getElem?_eq_getElem h]; rfl
theorem Perm.at_lt {n i : Nat} {p : List Nat} (h : Perm n p) (hi : i < n) : at0 p i < n := h.lt _ (List.mem_of_getElem? (at0_some (by rw [h.len]; exact hi)))
theorem Perm.inj {n i j : Nat} {p : List Nat} (h : Perm n p) (hi : i < n) (hj : j < n) (e : at0 p i = at0 p j) : i = j := by
  have h1 := at0_some (p := p) (i := i) (by rw [h.len]; exact hi)
  have h2 := at0_some (p := p) (i := j) (by rw [h.len]; exact hj)
  rw [e] at h1
  exact nd_ix h.nd h1 h2
theorem Perm.itr_lt {n : Nat} {p : List Nat} (h : Perm n p) : ∀ k i, i < n → itr p k i < n
  | 0, _, hi => hi
  | k + 1, i, hi => h.at_lt (Perm.itr_lt h k i hi)
theorem itr_add (p : List Nat) (a : Nat) : ∀ b i, itr p (a + b) i = itr p b (itr p a i)
  | 0, _ => rfl
  | b + 1, i => by
    show at0 p (itr p (a + b) i) = at0 p (itr p b (itr p a i))
    rw [itr_add p a b i]
theorem Perm.itr_inj {n : Nat} {p : List Nat} (h : Perm n p) : ∀ k i j, i < n → j < n → itr p k i = itr p k j → i = j
  | 0, _, _, _, _, e => e
  | k + 1, i, j, hi, hj, e => Perm.itr_inj h k i j hi hj (h.inj (h.itr_lt k i hi) (h.itr_lt k j hj) e)
theorem pw_len (p : List Nat) : ∀ k, (pw p k).length = p.length
  | 0 => List.length_range
  | k + 1 => by
    show ((pw p k).map (at0 p)).length = _
    rw [List.length_map, pw_len p k]
theorem pw_at (p : List Nat) {i : Nat} (hi : i < p.length) : ∀ k, (pw p k)[i]? = some (itr p k i)
  | 0 => List.getElem?_range hi
  | k + 1 => by
    show ((pw p k).map (at0 p))[i]? = _
    rw [List.getElem?_map, pw_at p hi k]
    rfl
theorem pw_id (p : List Nat) (k : Nat) : pw p k = idN p.length ↔ ∀ i, i < p.length → itr p k i = i := by
  constructor
  · intro e i hi
    have h1 := pw_at p hi k
    rw [e] at h1
    have h2 : (idN p.length)[i]? = some i := List.getElem?_range hi
    rw [h1] at h2
    exact Option.some.inj h2
  · intro hall
    apply List.ext_getElem?
    intro i
    by_cases hi : i < p.length
    · rw [pw_at p hi k, hall i hi]
      exact (List.getElem?_range hi).symm
    · rw [List.getElem?_eq_none (by rw [pw_len]; omega), List.getElem?_eq_none (by unfold idN; rw [List.length_range]; omega)]
theorem pw_one {n : Nat} {p : List Nat} (h : Perm n p) : pw p 1 = p := by
  apply List.ext_getElem?
  intro i
  by_cases hi : i < p.length
  · rw [pw_at p hi 1, at0_some hi]
    rfl
  · rw [List.getElem?_eq_none (by rw [pw_len]; omega), List.getElem?_eq_none (by omega)]
/-- how long it takes place i to come back -/
def IsCyc (p : List Nat) (i L : Nat) : Prop := 1 ≤ L ∧ itr p L i = i ∧ ∀ k, 1 ≤ k → k < L → itr p k i ≠ i
theorem nodup_le : ∀ {ks ns : List Nat}, ks.Nodup → (∀ k ∈ ks, k ∈ ns) → ks.length ≤ ns.length
  | [], _, _, _ => Nat.zero_le _
  | k :: ks, ns, nd, h => by
    have hk : k ∈ ns := h k List.mem_cons_self
    have nd' := List.nodup_cons.mp nd
    have hs : ∀ x ∈ ks, x ∈ ns.erase k := fun x hx => by
      have hne : x ≠ k := fun e => nd'.1 (e ▸ hx)
      exact (List.mem_erase_of_ne hne).mpr (h x (List.mem_cons_of_mem _ hx))
    have ih := nodup_le nd'.2 hs
    rw [List.length_erase_of_mem hk] at ih
    have := List.length_pos_of_mem hk
    rw [List.length_cons]
    omega
theorem least_of {P : Nat → Prop} : ∀ n, (∃ k, 1 ≤ k ∧ k ≤ n ∧ P k) → ∃ L, 1 ≤ L ∧ L ≤ n ∧ P L ∧ ∀ k, 1 ≤ k → k < L → ¬ P k
  | 0, ⟨k, h1, h2, _⟩ => absurd h1 (by omega)
  | n + 1, ⟨k, h1, h2, hp⟩ => by
    by_cases hn : ∃ k, 1 ≤ k ∧ k ≤ n ∧ P k
    · obtain ⟨L, a, b, c, d⟩ := least_of n hn
      exact ⟨L, a, by omega, c, d⟩
    · have e : k = n + 1 := by
        by_cases hk : k ≤ n
        · exact absurd ⟨k, h1, hk, hp⟩ hn
        · omega
      subst e
      exact ⟨n + 1, h1, Nat.le_refl _, hp, fun j j1 j2 pj => hn ⟨j, j1, by omega, pj⟩⟩
theorem Perm.cyc {n i : Nat} {p : List Nat} (h : Perm n p) (hi : i < n) : ∃ L, L ≤ n ∧ IsCyc p i L := by
  have hex : ∃ k, 1 ≤ k ∧ k ≤ n ∧ itr p k i = i := by
    by_cases hh : ∃ k, 1 ≤ k ∧ k ≤ n ∧ itr p k i = i
    · exact hh
    · exfalso
      have nd : ((List.range (n + 1)).map fun k => itr p k i).Nodup := by
        refine List.pairwise_iff_getElem.mpr fun a b ha hb hab e => ?_
        rw [List.length_map, List.length_range] at ha hb
        rw [List.getElem_map, List.getElem_map, List.getElem_range, List.getElem_range] at e
        have e2 : itr p b i = itr p a (itr p (b - a) i) := by rw [← itr_add]; congr 1; omega
        rw [e2] at e
        exact hh ⟨b - a, by omega, by omega, (h.itr_inj a _ _ hi (h.itr_lt _ _ hi) e).symm⟩
      have := nodup_le (ns := List.range n) nd (fun k hk => by
        obtain ⟨j, _, rfl⟩ := List.mem_map.mp hk
        exact List.mem_range.mpr (h.itr_lt _ _ hi))
      rw [List.length_map, List.length_range, List.length_range] at this
      omega
  obtain ⟨L, a, b, c, d⟩ := least_of n hex
  exact ⟨L, b, a, c, d⟩
theorem cyc_mul {p : List Nat} {i L : Nat} (h : itr p L i = i) : ∀ m, itr p (L * m) i = i
  | 0 => rfl
  | m + 1 => by rw [Nat.mul_succ, Nat.add_comm, itr_add, h, cyc_mul h m]
theorem IsCyc.dvd {p : List Nat} {i L k : Nat} (h : IsCyc p i L) : itr p k i = i ↔ L ∣ k := by
  constructor
  · intro e
    have hm : itr p (k % L) i = i := by
      have e2 : itr p k i = itr p (k % L) (itr p (L * (k / L)) i) := by rw [← itr_add, Nat.div_add_mod]
      rw [cyc_mul h.2.1] at e2
      rw [← e2, e]
    by_cases hz : k % L = 0
    · exact Nat.dvd_of_mod_eq_zero hz
    · exact absurd hm (h.2.2 _ (by omega) (Nat.mod_lt _ h.1))
  · rintro ⟨m, rfl⟩
    exact cyc_mul h.2.1 m
/-! lcm of a list -/
def lcmL (l : List Nat) : Nat := l.foldl Nat.lcm 1
theorem foldl_lcm_dvd : ∀ (l : List Nat) (a k : Nat), l.foldl Nat.lcm a ∣ k ↔ a ∣ k ∧ ∀ x ∈ l, x ∣ k
  | [], a, k => by simp
  | x :: l, a, k => by
    rw [List.foldl_cons, foldl_lcm_dvd l (Nat.lcm a x) k]
    constructor
    · rintro ⟨h1, h2⟩
      refine ⟨Nat.dvd_trans (Nat.dvd_lcm_left a x) h1, fun y hy => ?_⟩
      rcases List.mem_cons.mp hy with rfl | hy
      · exact Nat.dvd_trans (Nat.dvd_lcm_right a y) h1
      · exact h2 y hy
    · rintro ⟨h1, h2⟩
      exact ⟨Nat.lcm_dvd h1 (h2 x List.mem_cons_self), fun y hy => h2 y (List.mem_cons_of_mem _ hy)⟩
theorem lcmL_dvd (l : List Nat) (k : Nat) : lcmL l ∣ k ↔ ∀ x ∈ l, x ∣ k := by
  unfold lcmL
  rw [foldl_lcm_dvd]
  exact ⟨fun h => h.2, fun h => ⟨Nat.one_dvd k, h⟩⟩
theorem lcmL_pos : ∀ {l : List Nat}, (∀ x ∈ l, 1 ≤ x) → 1 ≤ lcmL l := by
  have gen : ∀ (l : List Nat) (a : Nat), 1 ≤ a → (∀ x ∈ l, 1 ≤ x) → 1 ≤ l.foldl Nat.lcm a := by
    intro l
    induction l with
    | nil => intro a ha _; exact ha
    | cons x l ih =>
      intro a ha h
      rw [List.foldl_cons]
      exact ih _ (Nat.lcm_pos ha (h x List.mem_cons_self)) fun y hy => h y (List.mem_cons_of_mem _ hy)
  intro l h
  exact gen l 1 (Nat.le_refl _) h
/-! at most 20 for nine places: distinct lengths take different places -/
theorem count_sum : ∀ (l S : List Nat), S.Nodup → (S.map fun x => l.count x).sum ≤ l.length
  | [], S, nd => by
    have : (S.map fun x => ([] : List Nat).count x).sum = 0 := by
      clear nd
      induction S with
      | nil => rfl
      | cons s S ih =>
        rw [List.map_cons, List.sum_cons, ih]
        rfl
    rw [this]; exact Nat.zero_le _
  | y :: l, S, nd => by
    have ih := count_sum l S nd
    have h1 : ∀ S : List Nat, S.Nodup → (S.map fun x => (y :: l).count x).sum ≤ (S.map fun x => l.count x).sum + (if y ∈ S then 1 else 0) := by
      intro S
      induction S with
      | nil => intro _; simp
      | cons s S ihs =>
        intro nd
        have nd' := List.nodup_cons.mp nd
        have := ihs nd'.2
        rw [List.map_cons, List.sum_cons, List.map_cons, List.sum_cons, List.count_cons]
        by_cases e : y = s
        · subst e
          rw [if_neg nd'.1] at this
          rw [if_pos List.mem_cons_self]
          simp only [beq_self_eq_true, if_true]
          omega
        · have e2 : (y == s) = false := by simpa using e
          rw [e2]
          have e3 : (y ∈ s :: S) ↔ y ∈ S := by simp [e]
          simp only [e3, Bool.false_eq_true, if_false]
          omega
    have h2 := h1 S nd
    rw [List.length_cons]
    by_cases hy : y ∈ S
    · rw [if_pos hy] at h2; omega
    · rw [if_neg hy] at h2; omega
theorem small_lcm (q : Nat → Bool) (h0 : q 0 = false) (h : ((List.range 10).filter q).sum ≤ 9) : lcmL ((List.range 10).filter q) ≤ 99 := by
  have e : List.range 10 = [0, 1, 2, 3, 4, 5, 6, 7, 8, 9] := by decide
  rw [e] at h ⊢
  simp only [List.filter_cons, List.filter_nil, h0] at h ⊢
  generalize q 1 = b1 at h ⊢
  generalize q 2 = b2 at h ⊢
  generalize q 3 = b3 at h ⊢
  generalize q 4 = b4 at h ⊢
  generalize q 5 = b5 at h ⊢
  generalize q 6 = b6 at h ⊢
  generalize q 7 = b7 at h ⊢
  generalize q 8 = b8 at h ⊢
  generalize q 9 = b9 at h ⊢
  revert b1 b2 b3 b4 b5 b6 b7 b8 b9
  decide +kernel
theorem Perm.order_small {n : Nat} {p Ls : List Nat} (h : Perm n p) (hn : n ≤ 9) (hl : Ls.length = n) (hc : ∀ i, i < n → IsCyc p i (at0 Ls i)) : lcmL Ls ≤ 99 := by
  have mem : ∀ x ∈ Ls, ∃ i, i < n ∧ at0 Ls i = x := fun x hx => by
    obtain ⟨i, hi⟩ := List.mem_iff_getElem?.mp hx
    have hil := (List.getElem?_eq_some_iff.mp hi).1
    rw [at0_some hil] at hi
    exact ⟨i, by omega, Option.some.inj hi⟩
  -- the places on the way of i have its length
  have cnt : ∀ x ∈ Ls, x ≤ Ls.count x := fun x hx => by
    obtain ⟨i, hi, ex⟩ := mem x hx
    have hci := hc i hi
    rw [ex] at hci
    have same : ∀ k, at0 Ls (itr p k i) = x := fun k => by
      have hj := h.itr_lt k i hi
      have hcj := hc _ hj
      have d1 : at0 Ls (itr p k i) ∣ x := by
        rw [← hcj.dvd, ← itr_add, Nat.add_comm, itr_add, hci.2.1]
      have d2 : x ∣ at0 Ls (itr p k i) := by
        rw [← hci.dvd]
        refine h.itr_inj k _ _ (h.itr_lt _ _ hi) hi ?_
        rw [← itr_add, Nat.add_comm, itr_add]
        exact hcj.2.1
      exact Nat.dvd_antisymm d1 d2
    have nd : ((List.range x).map fun k => itr p k i).Nodup := by
      refine List.pairwise_iff_getElem.mpr fun a b ha hb hab e => ?_
      rw [List.length_map, List.length_range] at ha hb
      rw [List.getElem_map, List.getElem_map, List.getElem_range, List.getElem_range] at e
      have e2 : itr p b i = itr p a (itr p (b - a) i) := by rw [← itr_add]; congr 1; omega
      rw [e2] at e
      exact hci.2.2 (b - a) (by omega) (by omega) (h.itr_inj a _ _ hi (h.itr_lt _ _ hi) e).symm
    have hle := nodup_le (ns := (List.range n).filter fun j => at0 Ls j == x) nd (fun j hj => by
      obtain ⟨k, _, rfl⟩ := List.mem_map.mp hj
      refine List.mem_filter.mpr ⟨List.mem_range.mpr (h.itr_lt k i hi), ?_⟩
      rw [same k]; exact beq_self_eq_true _)
    rw [List.length_map, List.length_range] at hle
    have eL : Ls = (List.range n).map (at0 Ls) := by
      apply List.ext_getElem?
      intro j
      by_cases hj : j < n
      · rw [at0_some (by omega), List.getElem?_map, List.getElem?_range hj]; rfl
      · rw [List.getElem?_eq_none (by omega), List.getElem?_eq_none (by rw [List.length_map, List.length_range]; omega)]
    have e3 : Ls.count x = ((List.range n).filter fun j => at0 Ls j == x).length := by
      rw [List.count_eq_countP]
      conv => lhs; rw [eL]
      rw [List.countP_map, List.countP_eq_length_filter]
      rfl
    omega
  have pos : ∀ x ∈ Ls, 1 ≤ x := fun x hx => by
    obtain ⟨i, hi, ex⟩ := mem x hx
    rw [← ex]; exact (hc i hi).1
  have bnd : ∀ x ∈ Ls, x ≤ 9 := fun x hx => by
    have := cnt x hx
    have := List.count_le_length (a := x) (l := Ls)
    omega
  have ndS : ((List.range 10).filter fun x => decide (x ∈ Ls)).Nodup := (List.nodup_range.sublist List.filter_sublist)
  have s1 := count_sum Ls _ ndS
  have s2 : ((List.range 10).filter fun x => decide (x ∈ Ls)).sum ≤ (((List.range 10).filter fun x => decide (x ∈ Ls)).map fun x => Ls.count x).sum := by
    have gen : ∀ S : List Nat, (∀ x ∈ S, x ≤ Ls.count x) → S.sum ≤ (S.map fun x => Ls.count x).sum := by
      intro S
      induction S with
      | nil => intro _; exact Nat.le_refl _
      | cons s S ih =>
        intro hS
        rw [List.map_cons, List.sum_cons, List.sum_cons]
        have := hS s List.mem_cons_self
        have := ih fun x hx => hS x (List.mem_cons_of_mem _ hx)
        omega
    exact gen _ fun x hx => cnt x (of_decide_eq_true (List.mem_filter.mp hx).2)
  have h3 := small_lcm (fun x => decide (x ∈ Ls)) (decide_eq_false fun h0 => absurd (pos 0 h0) (by omega)) (by omega)
  refine Nat.le_trans (Nat.le_of_dvd ?_ ?_) h3
  · exact lcmL_pos fun x hx => pos x (of_decide_eq_true (List.mem_filter.mp hx).2)
  · rw [lcmL_dvd]
    intro x hx
    have hm : x ∈ (List.range 10).filter fun x => decide (x ∈ Ls) := List.mem_filter.mpr ⟨List.mem_range.mpr (by have := bnd x hx; omega), decide_eq_true hx⟩
    exact (lcmL_dvd _ _).mp (Nat.dvd_refl _) x hm
/-- the order: the least power that leads each place to itself -/
theorem Perm.order {n : Nat} {p Ls : List Nat} (h : Perm n p) (hl : Ls.length = n) (hc : ∀ i, i < n → IsCyc p i (at0 Ls i)) : 1 ≤ lcmL Ls ∧ pw p (lcmL Ls) = idN n ∧ ∀ k, 1 ≤ k → k < lcmL Ls → pw p k ≠ idN n := by
  have key : ∀ k, pw p k = idN n ↔ lcmL Ls ∣ k := fun k => by
    have e : idN n = idN p.length := by rw [h.len]
    rw [e, pw_id, lcmL_dvd, h.len]
    constructor
    · intro hall x hx
      obtain ⟨i, hi⟩ := List.mem_iff_getElem?.mp hx
      have hil := (List.getElem?_eq_some_iff.mp hi).1
      rw [at0_some hil] at hi
      rw [← Option.some.inj hi]
      exact (hc i (by omega)).dvd.mp (hall i (by omega))
    · intro hall i hi
      exact (hc i hi).dvd.mpr (hall _ (List.mem_of_getElem? (at0_some (by omega))))
  have pos : ∀ x ∈ Ls, 1 ≤ x := fun x hx => by
    obtain ⟨i, hi⟩ := List.mem_iff_getElem?.mp hx
    have hil := (List.getElem?_eq_some_iff.mp hi).1
    rw [at0_some hil] at hi
    rw [← Option.some.inj hi]
    exact (hc i (by omega)).1
  refine ⟨lcmL_pos pos, (key _).mpr (Nat.dvd_refl _), fun k h1 h2 e => ?_⟩
  have := Nat.le_of_dvd (by omega) ((key k).mp e)
  omega
end G
set_option Elab.async false
set_option linter.all false
set_option maxRecDepth 100000
set_option maxHeartbeats 4000000
namespace G
open PySem PySem.Spec PyProof.Rows L2
section
variable {X : Cx} {K : PySem.W.Frag} {H : Hp} {Q : VK}
def rIdxT (K : PySem.W.Frag) : V → List V → Hp → VK → Prop := fun x xs H Q => ∃ (p : Addr) (g : List Int) (k : Int), x = .ref p ∧ xs = [.int k] ∧ SqT K H p (g.map V.int) ∧ k ∈ g ∧ Q (.int (g.idxOf k : Nat)) H
theorem mt_indexT (hK : X.K = K) : MtR X "tuple.index" (rIdxT K) := by
  subst hK
  intro pins s σ H x xs v us Q I rx rs h
  obtain ⟨p, g, k, rfl, rfl, hq, hk, q⟩ := h
  cases rx
  obtain ⟨u, rfl, t, rfl⟩ := vals1 rs
  obtain ⟨its, r, ⟨⟨cls, dd, dt, sl⟩, ho, hc, n, hd⟩, hz⟩ := I.tuple hq
  obtain rfl : cls = .type "tuple" := hc
  obtain rfl : dt = .seq its.toArray n := hd
  have hl : its.toArray.size = g.length := by rw [List.size_toArray, ← r.length, List.length_map]
  have hj := List.idxOf_lt_length_of_mem hk
  have there : ∀ (m : Nat) (hm : m < its.toArray.size), ∃ t', its.toArray[m] = Value.int (g.getD m 0) t' := fun m hm => by
    have hm' : m < g.length := by omega
    obtain ⟨w, hw, t', hw'⟩ := r.get (i := m) (x := .int (g.getD m 0)) (by rw [List.getElem?_map, List.getD_eq_getElem?_getD, List.getElem?_eq_getElem hm']; rfl)
    refine ⟨t', ?_⟩
    have e := (List.getElem?_eq_some_iff.mp hw).2
    rw [← hw', ← e]
    simp
  have eqs : ∀ w, w ∈ its.toArray → SeqAt.EqAt X.A.in1 s w (.int k t) (eqU (.int k) w) := fun w hw =>
    mem_eqAt (x := .int k) ⟨t, rfl⟩ rfl r (flat_ints g) w (by simpa using hw)
  refine call_meets PySem.F.slot_tuple_index ⟨_, ho, rfl⟩ PySem.F.entry_tuple_index (PySem.F.args_tuple_index_2 _ _)
    (TI.tuple_indexAt p its.toArray n dd sl (.int k t) (eqU (.int k)) (g.idxOf k) (by omega) ?_ ?_) ⟨ho, eqs, ⟨.int _, H, I.tok _, ⟨_, rfl⟩, q⟩⟩
  · obtain ⟨t', h2⟩ := there (g.idxOf k) (by omega)
    rw [h2]
    show (g.getD (g.idxOf k) 0 == k) = true
    rw [List.getD_eq_getElem?_getD, List.getElem?_eq_getElem hj, List.getElem_idxOf hj]
    exact beq_self_eq_true k
  · intro m hm hmj
    obtain ⟨t', h2⟩ := there m hm
    rw [h2]
    show (g.getD m 0 == k) = false
    have hm' : m < g.length := by omega
    have := List.not_of_lt_findIdx (p := (· == k)) (xs := g) (i := m) hmj
    rw [List.getD_eq_getElem?_getD, List.getElem?_eq_getElem hm']
    simpa using this
theorem r_idxT {p : Addr} {g : List Int} {k : Int} (h : SqT K H p (g.map V.int)) (hk : k ∈ g) (q : Q (.int (g.idxOf k : Nat)) H) : rIdxT K (.ref p) [.int k] H Q := ⟨p, g, k, rfl, rfl, h, hk, q⟩
end
theorem nat_ints (r : List Nat) : r.map nD = (r.map fun n : Nat => (n : Int)).map PyData.int := by rw [List.map_map]; rfl
theorem shaped_row (r : List Nat) : SeqAt.shaped (rowD r) = true := by
  refine Bool.and_eq_true_iff.mpr ⟨?_, decide_eq_true ?_⟩
  · show PyData.canLayAll0 (r.map nD) = true
    rw [nat_ints]
    exact lay_ints _
  · show PyData.depthAll (r.map nD) + 1 ≤ 64
    rw [nat_ints, depth_ints]
    decide
theorem cast_inj {a b : List Nat} : (a.map fun n : Nat => (n : Int)) = (b.map fun n : Nat => (n : Int)) ↔ a = b := by
  constructor
  · intro h
    have h2 := congrArg (List.map Int.toNat) h
    rw [List.map_map, List.map_map] at h2
    have e : (Int.toNat ∘ fun n : Nat => (n : Int)) = id := by funext n; exact Int.toNat_natCast n
    rw [e, List.map_id, List.map_id] at h2
    exact h2
  · rintro rfl
    rfl
theorem eqv_rows (a b : List Nat) : PyData.eqv (rowD a) (rowD b) = decide (a = b) := by
  unfold rowD
  rw [PyData.eqv, nat_ints, nat_ints, eqv_ints_all]
  by_cases h : a = b
  · subst h; simp
  · rw [decide_eq_false h, decide_eq_false fun e => h (cast_inj.mp e)]
theorem fits_row {r : List Nat} (n : Nat) (h : r.length ≤ 1000) : fits (n + 2) (rowD r) := by
  have zl : (sizeLine : Nat) = 16777216 := by decide
  refine ⟨by rw [List.length_map]; omega, fun d hd => ?_⟩
  obtain ⟨k, _, rfl⟩ := List.mem_map.mp hd
  exact True.intro
section
variable {σ : L2.St} {H : Hp} {Q : VK} {te ta : TE} {K : PySem.W.Frag}
theorem r_rng2 {ta : TA} {R : It → Hp → Prop} (h : ta σ H fun vs H1 => ∃ i j : Int, vs = [.int i, .int j] ∧ (-(2 ^ 62) ≤ i ∧ i < 2 ^ 62 ∧ -(2 ^ 62) ≤ j ∧ j < 2 ^ 62) ∧ R (Itr i (j - i).toNat) H1) : iRng2 ta σ H R := h
theorem r_rng2' {i j : Int} {C : Int → Int → Prop} (h : -(2 ^ 62) ≤ i ∧ i < 2 ^ 62 ∧ -(2 ^ 62) ≤ j ∧ j < 2 ^ 62) (q : C i j) : ∃ i' j' : Int, [V.int i, V.int j] = [.int i', .int j'] ∧ (-(2 ^ 62) ≤ i' ∧ i' < 2 ^ 62 ∧ -(2 ^ 62) ≤ j' ∧ j' < 2 ^ 62) ∧ C i' j' := ⟨i, j, rfl, h, q⟩
theorem rg_nat (n : Nat) : rgV 0 (n : Int) = (List.range n).map iV := by
  unfold rgV
  rw [show ((n : Int) - 0).toNat = n by omega]
  refine List.map_congr_left fun i _ => ?_
  show V.int (0 + (i : Int)) = V.int (i : Int)
  rw [Int.zero_add]
theorem r_tupRgN {n : Nat} (h1 : n ≤ 16777216) (q : ∀ p, H p = none → Q (.ref p) (upd H p (.tup ((List.range n).map iV)))) (h : ∀ R : VK, R (iV n) H → te σ H R) : tTupRg (tRg1 te) σ H Q := by
  refine h _ ⟨(n : Int), rfl, RgOk.of_le (Int.le_refl _) (by omega) (by decide) (by omega), fun p hp => ?_⟩
  rw [rg_nat]
  exact q p hp
theorem r_lcm {a b : Nat} (ha : a < 2 ^ 64) (hb : b < 2 ^ 64) (q : Q (iV (Nat.lcm a b)) H) : rLcm [.int (a : Int), .int (b : Int)] H Q := ⟨a, b, rfl, ha, hb, q⟩
end
theorem row_of {K : PySem.W.Frag} {H : Hp} {p : Addr} {r : List Nat} (h : SqT K H p (r.map iV)) : Dt K H (.ref p) (rowD r) := .tup h (ofNats r)
theorem at_row {r : List Nat} {i : Nat} (h : i < r.length) : atI (r.map iV) (i : Int) = some (iV (at0 r i)) := at_nat rfl h
/-! ### primes -/
def isPr (e : Nat) : Prop := 2 ≤ e ∧ ∀ f, 2 ≤ f → f < e → ¬ f ∣ e
theorem least_pr : ∀ n, 2 ≤ n → ∃ e, isPr e ∧ e ∣ n := by
  intro n
  induction n using Nat.strongRecOn with
  | _ n ih =>
    intro h2
    by_cases h : ∃ f, 2 ≤ f ∧ f < n ∧ f ∣ n
    · obtain ⟨f, a, b, c⟩ := h
      obtain ⟨e, he, hd⟩ := ih f b a
      exact ⟨e, he, Nat.dvd_trans hd c⟩
    · exact ⟨n, ⟨h2, fun f a b c => h ⟨f, a, b, c⟩⟩, Nat.dvd_refl n⟩
open Classical in
noncomputable def prF (c d : Nat) : List Nat := (List.range d).filter fun e => decide (isPr e ∧ e ∣ c)
theorem prF_yes {c d : Nat} (h : isPr d ∧ d ∣ c) : prF c (d + 1) = prF c d ++ [d] := by
  classical
  unfold prF
  rw [List.range_succ, List.filter_append, List.filter_cons_of_pos (by simpa using h)]
  rfl
theorem prF_no {c d : Nat} (h : ¬ (isPr d ∧ d ∣ c)) : prF c (d + 1) = prF c d := by
  classical
  unfold prF
  rw [List.range_succ, List.filter_append, List.filter_cons_of_neg (by simpa using h), List.filter_nil, List.append_nil]
theorem prF_mem {c d e : Nat} : e ∈ prF c d ↔ e < d ∧ isPr e ∧ e ∣ c := by
  classical
  unfold prF
  rw [List.mem_filter, List.mem_range]
  simp
theorem prF_two (c : Nat) : prF c 2 = [] := by
  refine List.eq_nil_iff_forall_not_mem.mpr fun e he => ?_
  have := prF_mem.mp he
  have := this.2.1.1
  omega
theorem prF_grow {c d : Nat} (h : ∀ e, d ≤ e → isPr e → ¬ e ∣ c) : ∀ k, prF c (d + k) = prF c d
  | 0 => rfl
  | k + 1 => by
    show prF c (d + k + 1) = _
    rw [prF_no (fun z => h (d + k) (Nat.le_add_right _ _) z.1 z.2), prF_grow h k]
theorem pr_cop {e d : Nat} (he : isPr e) (hd : 1 ≤ d) (h : d < e) : Nat.Coprime e d := by
  have g1 := Nat.gcd_dvd_left e d
  have g2 := Nat.gcd_dvd_right e d
  have hle := Nat.le_of_dvd hd g2
  by_cases hg : 2 ≤ Nat.gcd e d
  · exact absurd g1 (he.2 _ hg (by omega))
  · have : 0 < Nat.gcd e d := Nat.gcd_pos_of_pos_right _ hd
    show Nat.gcd e d = 1
    omega
end G
set_option Elab.async false
set_option linter.all false
set_option maxRecDepth 100000
set_option maxHeartbeats 4000000
namespace G
open PySem PySem.Spec PyProof.Rows L2
/-! rows of numbers, sorted -/
def kk (r : List Nat) : List (Int ⊕ List Nat) := r.map fun n : Nat => Sum.inl (n : Int)
def rle (a b : List Nat) : Prop := (listOrd itemOrd).kle (kk a) (kk b)
theorem kk_inj {a b : List Nat} (h : kk a = kk b) : a = b := by
  induction a generalizing b with
  | nil => cases b with
    | nil => rfl
    | cons y b => exact nomatch h
  | cons x a ih => cases b with
    | nil => exact nomatch h
    | cons y b =>
      have h1 := List.cons.inj h
      have h2 : (x : Int) = (y : Int) := Sum.inl.inj h1.1
      rw [show x = y by omega, ih h1.2]
theorem rle_anti {a b : List Nat} (h1 : rle a b) (h2 : rle b a) : a = b := kk_inj (KeyOrd.kle_antisymm h1 h2)
theorem sort_uniq : ∀ {a b : List (List Nat)}, a.Perm b → a.Pairwise rle → b.Pairwise rle → a = b
  | [], b, h, _, _ => (List.Perm.nil_eq h)
  | x :: a, [], h, _, _ => absurd h.length_eq (by simp)
  | x :: a, y :: b, h, ha, hb => by
    have ha' := List.pairwise_cons.mp ha
    have hb' := List.pairwise_cons.mp hb
    have e : x = y := by
      have hx : x ∈ y :: b := h.mem_iff.mp List.mem_cons_self
      have hy : y ∈ x :: a := h.mem_iff.mpr List.mem_cons_self
      rcases List.mem_cons.mp hx with e | hx
      · exact e
      · rcases List.mem_cons.mp hy with e | hy
        · exact e.symm
        · exact rle_anti (ha'.1 y hy) (hb'.1 x hx)
    subst e
    rw [sort_uniq (List.Perm.cons_inv h) ha'.2 hb'.2]
theorem items_key : ∀ (r : List Nat) (its : List Value) (i : Nat), Vals (r.map iV) its → tupItems (fun _ => false) i its = some (kk r)
  | [], _, _, h => by cases h; simp [tupItems, kk]
  | n :: r, _, i, h => by
    cases h with
    | cons h1 h2 =>
      obtain ⟨t, rfl⟩ := h1
      show (if (fun _ => false) i = true then none else (tupItems (fun _ => false) (i + 1) _).map _) = _
      rw [if_neg Bool.false_ne_true, items_key r _ (i + 1) h2]
      rfl
theorem tup_key {h : Heap} {b : Addr} {r : List Nat} {its : List Value} (ht : IsTup h b its.toArray) (hv : Vals (r.map iV) its) : PyProof.Rows.G.tupKeyC h (fun _ => false) (.ref b) = some (kk r) := by
  obtain ⟨o, ho, hc, n, hd⟩ := ht
  unfold PyProof.Rows.G.tupKeyC
  have e1 : PyProof.Rows.G.isTupObj h (.ref b) = true := by
    simp only [PyProof.Rows.G.isTupObj, ho, hc]
    decide
  rw [if_pos e1]
  simp only [tupKey, ho, hd]
  exact items_key r its 0 hv
def RowAt (h : Heap) (b : Addr) (r : List Nat) : Prop := r ≠ [] ∧ ∃ its : List Value, Vals (r.map iV) its ∧ IsTup h b its.toArray
theorem tups_of {h : Heap} : ∀ (ps : List (Addr × List Nat)), (∀ p ∈ ps, RowAt h p.1 p.2) → ∃ fs, TupsOf h (fun _ => false) (ps.map fun p => Value.ref p.1) fs
  | [], _ => ⟨[], .nil⟩
  | p :: ps, hall => by
    obtain ⟨fs, hf⟩ := tups_of ps fun q hq => hall q (List.mem_cons_of_mem _ hq)
    obtain ⟨b, r⟩ := p
    obtain ⟨hne, its, hv, o, ho, hc, n, hd⟩ := hall (b, r) List.mem_cons_self
    cases r with
    | nil => exact absurd rfl hne
    | cons x r =>
      cases hv with
      | @cons _ u _ us h1 h2 =>
        obtain ⟨t, rfl⟩ := h1
        exact ⟨_ :: fs, .cons ⟨b, o, _, n, rfl, ho, hc, hd, rfl, fun _ => ⟨_, _, rfl⟩, fun e => absurd e Bool.false_ne_true⟩ hf⟩
theorem keys_of {h : Heap} {ps : List (Addr × List Nat)} (hall : ∀ p ∈ ps, RowAt h p.1 p.2) : ∀ v, v ∈ (ps.map fun p => Value.ref p.1) → ∃ l, PyProof.Rows.G.tupKeyC h (fun _ => false) v = some l := fun v hv => by
  obtain ⟨p, hp, rfl⟩ := List.mem_map.mp hv
  obtain ⟨_, its, h1, h2⟩ := hall p hp
  exact ⟨_, tup_key h2 h1⟩
theorem out_rows {h : Heap} {ps : List (Addr × List Nat)} (hall : ∀ p ∈ ps, RowAt h p.1 p.2) {xs : Array Keyed} (hp : xs.Perm (pairsOf (ps.map fun p => Value.ref p.1)))
    (hs : SortedToK (PyProof.Rows.G.tupKindC h (fun _ => false)) xs (pairsOf (ps.map fun p => Value.ref p.1)).size) :
    ∃ zs : List (Addr × List Nat), zs.Perm ps ∧ (xs.map (·.2)).toList = zs.map (fun p => Value.ref p.1) ∧ zs.Pairwise fun p q => rle p.2 q.2 := by
  have hl : xs.toList.Perm ((ps.map fun p => Value.ref p.1).zip (ps.map fun p => Value.ref p.1)) := by rw [← pairsOf_toList]; exact Array.perm_iff_toList_perm.mp hp
  have ez : ps.map (fun p => (Value.ref p.1, Value.ref p.1)) = (ps.map fun p => Value.ref p.1).zip (ps.map fun p => Value.ref p.1) := by
    rw [List.zip_map']
  obtain ⟨zs, pz, qz⟩ := perm_lift (fun p : Addr × List Nat => (Value.ref p.1, Value.ref p.1)) hl ps ez
  refine ⟨zs, pz, ?_, ?_⟩
  · rw [Array.toList_map, ← qz, List.map_map]
    rfl
  · rw [List.pairwise_iff_getElem]
    intro i j hi hj hij
    have hsz : (pairsOf (ps.map fun p => Value.ref p.1)).size = zs.length := by rw [pairsOf_size, List.length_map, pz.length_eq]
    have h1 := hs i j (Nat.le_of_lt hij) (by rw [hsz]; exact hj)
    have key : ∀ k (hk : k < zs.length), KK (PyProof.Rows.G.tupKindC h (fun _ => false)) xs k = kk zs[k].2 := by
      intro k hk
      have e : xs[k]? = some (Value.ref zs[k].1, Value.ref zs[k].1) := by
        rw [← Array.getElem?_toList, ← qz, List.getElem?_map, List.getElem?_eq_getElem hk]
        rfl
      unfold KK
      rw [e]
      obtain ⟨_, its, h2, h3⟩ := hall zs[k] (pz.mem_iff.mp (List.getElem_mem hk))
      show (PyProof.Rows.G.tupKeyC h (fun _ => false) (.ref zs[k].1)).getD [] = _
      rw [tup_key h3 h2]
      rfl
    rw [key i hi, key j hj] at h1
    exact h1
theorem RowAt.keep {h h' : Heap} {b : Addr} {r : List Nat} (x : RowAt h b r) (k : ∀ b o, h.get? b = some o → h'.get? b = some o) : RowAt h' b r := by
  obtain ⟨h1, its, h2, o, ho, h3⟩ := x
  exact ⟨h1, its, h2, o, k _ _ ho, h3⟩
def refsV (ps : List (Addr × List Nat)) : List V := ps.map fun p => V.ref p.1
def refsU (ps : List (Addr × List Nat)) : List Value := ps.map fun p => Value.ref p.1
theorem refs_eq : ∀ (ps : List (Addr × List Nat)) (its : List Value), Vals (refsV ps) its → its = refsU ps
  | [], _, h => by cases h; rfl
  | p :: ps, _, h => by
    cases h with
    | cons h1 h2 =>
      cases h1
      rw [refs_eq ps _ h2]
      rfl
theorem refs_vals : ∀ ps : List (Addr × List Nat), Vals (refsV ps) (refsU ps)
  | [] => .nil
  | _ :: ps => .cons rfl (refs_vals ps)
abbrev sortedR (zs : List (Addr × List Nat)) : Prop := zs.Pairwise fun p q => rle p.2 q.2
def rSortT (K : PySem.W.Frag) : List V → Hp → VK → Prop := fun vs H Q => ∃ (a : Addr) (ps : List (Addr × List Nat)), vs = [.ref a] ∧ SqL K H a (refsV ps) ∧ (∀ p ∈ ps, SqT K H p.1 (p.2.map iV) ∧ p.2 ≠ []) ∧
  ∀ (zs : List (Addr × List Nat)) (p : Addr), zs.Perm ps → sortedR zs → H p = none → Q (.ref p) (upd H p (.lst (refsV zs)))
section
variable {X : Cx} {K : PySem.W.Frag}
theorem cr_sortT (hK : X.K = K) : CallR X (.builtin "sorted") (rSortT K) := by
  subst hK
  rintro pins s σ H vs us Q I rs ⟨a, ps, rfl, hs, hall, key⟩
  obtain ⟨its, rv, hl, hz⟩ := I.list hs
  obtain rfl := refs_eq ps its rv
  rw [Vals.ref1 rs]
  have hrow : ∀ p ∈ ps, RowAt s.heap p.1 p.2 := fun p hp => by
    obtain ⟨js, jv, jt, _⟩ := I.tuple (hall p hp).1
    exact ⟨(hall p hp).2, js, jv, jt⟩
  obtain ⟨fs, hfs⟩ := tups_of ps hrow
  have hz2 : (refsU ps).length ≤ sizeLine := by rw [← rv.length]; exact hz
  refine PyProof.Rows.G.sorted_tups hl.isList hfs (keys_of hrow) hz2 fun st p1 p2 _ => ?_
  obtain ⟨zs, g1, g2, g3⟩ := out_rows hrow p1 p2
  obtain ⟨ep, hat⟩ := PyProof.Rows.sortedAll_at s.heap (refsU ps) ((arrOf st).map (·.2))
  have hln : (refsV zs).length ≤ sizeLine := by
    have := g1.length_eq
    have h2 : (refsU ps).length = ps.length := List.length_map _
    show (zs.map _).length ≤ _
    rw [List.length_map]
    omega
  have hvz : Vals (refsV zs) ((arrOf st).map (·.2)).toList := by
    rw [g2]
    exact refs_vals zs
  have new : ObjOk X.prog X.w (upd H (s.heap.objs.size + 1) (.lst (refsV zs))) (sortedAll s.heap (refsU ps) ((arrOf st).map (·.2))) (s.heap.objs.size + 1) (.lst (refsV zs)) := ⟨hln, _, ep, hvz, hat⟩
  exact ⟨.ref (s.heap.objs.size + 1), _, I.laid (t' := s.toks) (fun _ _ => PyProof.Rows.sortedAll_old) (Nat.le_succ _) new, rfl, key zs _ g1 g3 (I.hok.fresh (Nat.le_succ _))⟩
end
/-! dicts whose keys are rows -/
def kN (r : List Nat) : List Key := r.map fun n : Nat => .inl (n : Int)
theorem kN_row (r : List Nat) : (kN r).map kV = r.map iV := by
  unfold kN
  rw [List.map_map]
  rfl
theorem kN_inj {a b : List Nat} (h : kN a = kN b) : a = b := by
  induction a generalizing b with
  | nil => cases b with
    | nil => rfl
    | cons y b => exact nomatch h
  | cons x a ih => cases b with
    | nil => exact nomatch h
    | cons y b =>
      have h1 := List.cons.inj h
      have h2 : (x : Int) = (y : Int) := Sum.inl.inj h1.1
      rw [show x = y by omega, ih h1.2]
def dictN (rs : List (List Nat)) : List (List Key × V) := rs.map fun r => (kN r, V.bl true)
theorem dictN_len (rs : List (List Nat)) : (dictN rs).length = rs.length := List.length_map _
theorem valV_in {rs : List (List Nat)} {r : List Nat} (h : r ∈ rs) : valV (dictN rs) (kN r) = some (.bl true) := by
  induction rs with
  | nil => exact nomatch h
  | cons x rs ih =>
    by_cases e : x = r
    · subst e
      exact valV_pos rfl
    · rcases List.mem_cons.mp h with z | h
      · exact absurd z.symm e
      · show valV ((kN x, V.bl true) :: dictN rs) (kN r) = _
        rw [valV_neg (fun z => e (kN_inj z))]
        exact ih h
theorem valV_out {rs : List (List Nat)} {r : List Nat} (h : r ∉ rs) : valV (dictN rs) (kN r) = none := by
  induction rs with
  | nil => rfl
  | cons x rs ih =>
    show valV ((kN x, V.bl true) :: dictN rs) (kN r) = _
    rw [valV_neg (fun z => h (by rw [← kN_inj z]; exact List.mem_cons_self))]
    exact ih fun z => h (List.mem_cons_of_mem _ z)
theorem putN {rs : List (List Nat)} {r : List Nat} (h : r ∉ rs) : putK (dictN rs) (kN r) (.bl true) = dictN (rs ++ [r]) := by
  rw [putK_new _ (valV_out h)]
  unfold dictN
  rw [List.map_append]
  rfl
theorem rows_of {H : Hp} : ∀ {rs : List (List Nat)} {ks : List (List Key × Addr × Value)}, Paired (fun (p : List Key × V) (q : List Key × Addr × Value) => p.1 = q.1 ∧ H q.2.1 = some (.tup (p.1.map kV)) ∧ RelV p.2 q.2.2) (dictN rs) ks →
    ∃ ps : List (Addr × List Nat), ps.map (·.2) = rs ∧ refsU ps = ks.map (fun x => Value.ref x.2.1) ∧ ∀ p ∈ ps, H p.1 = some (.tup (p.2.map iV))
  | [], _, h => by cases h; exact ⟨[], rfl, rfl, fun p hp => nomatch hp⟩
  | r :: rs, _, h => by
    cases h with
    | @cons _ k _ ks h1 h2 =>
      obtain ⟨ps, e1, e2, e3⟩ := rows_of h2
      have hk : H k.2.1 = some (.tup ((kN r).map kV)) := h1.2.1
      rw [kN_row] at hk
      refine ⟨(k.2.1, r) :: ps, by rw [List.map_cons, e1], ?_, fun p hp => ?_⟩
      · show Value.ref k.2.1 :: refsU ps = _
        rw [e2]
        rfl
      · rcases List.mem_cons.mp hp with rfl | hp
        · exact hk
        · exact e3 p hp
/-- {t: v}, one key, a row -/
def tDispT (tk tv : TE) : TE := fun σ H Q => ∀ p, H p = none → tk σ (upd H p (.dT [])) fun x H1 => tv σ H1 fun y H2 => ∃ b r, x = .ref b ∧ H2 b = some (.tup ((r : List Nat).map iV)) ∧ H2 p = some (.dT []) ∧ y = .bl true ∧ Q (.ref p) (upd H2 p (.dT (dictN [r])))
section
variable {X : Cx} {K : PySem.W.Frag}
theorem pe_dispT {k v : Expr} {tk tv : TE} {pos : Pos} (hu : X.A.units + 1 < cLine) (hk : PE X k tk) (hv : PE X v tv) : PE X (.Dict [some k] [v] pos) (tDispT tk tv) := by
  constructor
  intro pins s σ H Q I q
  have hn := I.hok.fresh (Nat.le_refl s.heap.objs.size)
  have I1 := I.laid (a := s.heap.objs.size) (o := .dT []) (h' := s.heap.push { cls := .type "dict", data := .dict #[] }) (t' := s.toks) (fun _ _ e => Heap.get?_push_of_some _ e) (Nat.le_refl _) (dt_empty s.heap I.big)
  rw [arm_eval_Dict, zip_pairTrees [some k] [v] X.env pos rfl rfl, dictDisplay_pairs (pairTrees [some k] [v] X.env pos) (by simp [pairTrees]) (by simp [pairTrees])]
  refine wpAny_bind (wpAny_standAt (wpAny_bind ?_))
  refine wpAny_subDictH (knd := tupleKind (mixKind X.prog X.w)) (Q := fun d s' => wpAny (model X.prog X.w) X.A (pure (Value.ref d)) (EP X pins σ Q) X.xe s') (show X.A.units < cLine by omega) (by simp [pairTrees]) ?_
  refine pairTrees_cons_walk (thn (hk.run pins _ σ _ _ I1 (q _ hn)) fun u s1 ⟨x, H1, I2, rx, q1⟩ => thn (hv.run pins s1 σ H1 _ I2 q1) fun w2 s2 ⟨y, H2, I3, ry, b, r, ex, hb, hp, ey, q2⟩ => pairTrees_nil_walk ?_)
  subst ex ey
  cases rx
  rw [← kN_row] at hb
  obtain ⟨z, hd, xs, rel, dd⟩ := dt_of I3.hok hp
  cases rel
  refine ⟨[(kN r, b, w2)], ⟨rfl, rfl, key_of I3.hok hb, trivial⟩, dd, fun h' tk dd' hs => wpAny_pure ?_⟩
  obtain ⟨ob, es, ep, hq, h2, h3, h4, _, h5⟩ := dd'
  have I4 := d_write (t' := tk) (ob := .dT (dictN [r])) I3 (by rw [hp]; exact True.intro) hs ⟨ob, hq⟩ ⟨by rw [dictN_len]; show 1 ≤ sizeLine; decide, hd, [(kN r, b, w2)], .cons ⟨rfl, by rw [upd_ne (ne_of hb hp (fun z => nomatch z))]; exact hb, ry⟩ .nil, ob, es, ep, hq, h2, h3, h4, h5⟩
  exact ⟨.ref _, _, I4, rfl, q2⟩
/-- sorted(d) of a dict with rows as keys -/
def rSortD : List V → Hp → VK → Prop := fun vs H Q => ∃ (d : Addr) (rs : List (List Nat)), vs = [.ref d] ∧ Rd H d (.dT (dictN rs)) ∧ (∀ r ∈ rs, r ≠ []) ∧
  ∀ (zs : List (Addr × List Nat)) (p : Addr), (zs.map (·.2)).Perm rs → sortedR zs → (∀ z ∈ zs, H z.1 = some (.tup (z.2.map iV))) → H p = none → Q (.ref p) (upd H p (.lst (refsV zs)))
theorem cr_sortD (hc : X.calm = true) : CallR X (.builtin "sorted") rSortD := by
  rintro pins s σ H vs us Q I rs ⟨d, rows, rfl, hd, hne, key⟩
  rw [Vals.ref1 rs]
  obtain ⟨z, hs, ks, pr, o, es, ep, ho, hx, hdt, he, hn⟩ := (show ObjOk X.prog X.w H s.heap d (.dT (dictN rows)) from hd.ok I.hok)
  obtain ⟨ps, e1, e2, e3⟩ := rows_of pr
  have hes : es.size = ks.length := by rw [← Array.length_toList, he, List.length_map]
  have hps : ps.length = ks.length := by
    have := congrArg List.length e2
    rw [List.length_map] at this
    rw [← this]
    exact (List.length_map _).symm
  have hzl : ps.length ≤ sizeLine := by
    have h1 : (dictN rows).length = rows.length := dictN_len rows
    have h2 := congrArg List.length e1
    rw [List.length_map] at h2
    omega
  refine Calls.call_function_entry PyProof.Rows.kind_sorted PyProof.Rows.plain_sorted PyProof.Rows.entry_sorted (PyProof.Rows.args_sorted1 _) ?_
  unfold Builtin.«sorted»
  refine wpAny_bind (m := checkCount "sorted" 1 1 _) (wpAny_pure ?_)
  refine wpAny_bind (PySem.W.kdu_collect (A := X.A.in1) (kdl_raw hs hx hdt) (I.ok.hd hc) ho (by omega) fun h1 tk acc hk hacc => ?_)
  have ea : acc.toList = refsU ps := by
    rw [e2]
    refine List.ext_getElem (by rw [Array.length_toList, hacc.1, hes, List.length_map]) fun j hj1 hj2 => ?_
    rw [List.length_map] at hj2
    have hg : acc[j]? = some acc.toList[j] := by rw [← Array.getElem?_toList, List.getElem?_eq_getElem hj1]
    obtain ⟨en, hen, hv⟩ := hacc.2 j _ hg
    rw [← Array.getElem?_toList, he, List.getElem?_map, List.getElem?_eq_getElem hj2] at hen
    have h3 := Option.some.inj hen
    rw [hv, ← h3, List.getElem_map]
    rfl
  rw [ea]
  have I1 : Inv X pins σ H { s with heap := h1, toks := tk } := I.kept hk
  have hul : (refsU ps).length = ps.length := List.length_map _
  refine wpAny_bind (wpAny_newList ?_ (by omega))
  have hoL : (h1.push (seqObj "list" (refsU ps).toArray 0)).get? h1.objs.size = some (seqObj "list" (refsU ps).toArray 0) := Heap.get?_push_size _ rfl
  have hrow : ∀ p ∈ ps, RowAt (h1.push (seqObj "list" (refsU ps).toArray 0)) p.1 p.2 := fun p hp => by
    obtain ⟨js, jv, jt, _⟩ := I1.tuple (a := p.1) (xs := p.2.map iV) (.inl (.inl (e3 p hp)))
    have hpne : p.2 ≠ [] := hne _ (by rw [← e1]; exact List.mem_map_of_mem hp)
    exact RowAt.keep ⟨hpne, js, jv, jt⟩ fun b o e => Heap.get?_push_of_some _ e
  obtain ⟨fs, hfs⟩ := tups_of ps hrow
  show wpAny _ _ _ _ _ { s with heap := h1.push (seqObj "list" (refsU ps).toArray 0), toks := tk }
  refine wpAny_bind (wpAny_holding (wpAny_call_entry PyProof.Rows.slot_list_sort ⟨_, hoL, rfl⟩ PyProof.Rows.entry_list_sort
    (PyProof.Rows.G.list_sort_tups (s := { s with heap := h1.push (seqObj "list" (refsU ps).toArray 0), toks := tk }) hoL hfs (keys_of hrow) (by omega) fun st p1 p2 _ => ⟨_, rfl, ?_⟩) (PyProof.Rows.args_list_sort _)))
  obtain ⟨zs, g1, g2, g3⟩ := out_rows hrow p1 p2
  obtain ⟨e', hat⟩ := PyProof.Rows.sortedHeap_at (vs := refsU ps) (out := (arrOf st).map (·.2)) hoL
  have hln : (refsV zs).length ≤ sizeLine := by
    have := g1.length_eq
    show (zs.map _).length ≤ _
    rw [List.length_map]
    omega
  have hvz : Vals (refsV zs) ((arrOf st).map (·.2)).toList := by
    rw [g2]
    exact refs_vals zs
  have fin := I1.laid (a := h1.objs.size) (o := .lst (refsV zs)) (h' := sortedHeap (h1.push (seqObj "list" (refsU ps).toArray 0)) h1.objs.size (refsU ps) ((arrOf st).map (·.2))) (t' := tk) (fun b u e => by
      have hb : b < h1.objs.size := Heap.lt_size e
      rw [PyProof.Rows.sortedHeap_old (Nat.ne_of_lt hb) (by rw [size_push']; exact Nat.lt_succ_of_lt hb)]
      exact Heap.get?_push_of_some _ e) (Nat.le_refl _) ⟨hln, _, e', hvz, hat⟩
  refine wpAny_pure ⟨_, rfl, .ref h1.objs.size, _, fin, rfl, key zs _ ?_ g3 (fun z hz => e3 z (g1.mem_iff.mp hz)) (I1.hok.fresh (Nat.le_refl _))⟩
  rw [← e1]
  exact g1.map _
end
end G
set_option Elab.async false
set_option linter.all false
set_option maxRecDepth 100000
set_option maxHeartbeats 4000000
namespace G
open PySem PySem.Spec PyProof.Rows L2
/-! what some permutations make -/
inductive Gen (n : Nat) (gs : List (List Nat)) : List Nat → Prop
  | one : Gen n gs (idN n)
  | step {x m : List Nat} : Gen n gs x → m ∈ gs → Gen n gs (thenN x m)
def RowN (n : Nat) (r : List Nat) : Prop := r.length = n ∧ ∀ x ∈ r, x < n
theorem Perm.row {n : Nat} {p : List Nat} (h : Perm n p) : RowN n p := ⟨h.len, h.lt⟩
theorem RowN.id (n : Nat) : RowN n (idN n) := ⟨List.length_range, fun x hx => List.mem_range.mp hx⟩
theorem RowN.at {n i : Nat} {r : List Nat} (h : RowN n r) (hi : i < n) : at0 r i < n := h.2 _ (List.mem_of_getElem? (at0_some (by rw [h.1]; exact hi)))
theorem RowN.then {n : Nat} {x m : List Nat} (hx : RowN n x) (hm : RowN n m) : RowN n (thenN x m) := by
  refine ⟨by unfold thenN; rw [List.length_map]; exact hx.1, fun y hy => ?_⟩
  obtain ⟨k, hk, rfl⟩ := List.mem_map.mp hy
  exact hm.at (hx.2 k hk)
theorem Gen.row {n : Nat} {gs : List (List Nat)} (hg : ∀ m ∈ gs, RowN n m) {x : List Nat} (h : Gen n gs x) : RowN n x := by
  induction h with
  | one => exact RowN.id n
  | step _ hm ih => exact ih.then (hg _ hm)
theorem Gen.sub {n : Nat} {gs S : List (List Nat)} (h1 : idN n ∈ S) (h2 : ∀ x ∈ S, ∀ m ∈ gs, thenN x m ∈ S) {x : List Nat} (h : Gen n gs x) : x ∈ S := by
  induction h with
  | one => exact h1
  | step _ hm ih => exact h2 _ ih _ hm
theorem Gen.mono {n : Nat} {gs hs : List (List Nat)} (k : ∀ m ∈ gs, m ∈ hs) {x : List Nat} (h : Gen n gs x) : Gen n hs x := by
  induction h with
  | one => exact .one
  | step _ hm ih => exact .step ih (k _ hm)
theorem id_then {n : Nat} {m : List Nat} (h : m.length = n) : thenN (idN n) m = m := by
  apply List.ext_getElem?
  intro i
  unfold thenN idN
  by_cases hi : i < n
  · rw [List.getElem?_map, List.getElem?_range hi, at0_some (by omega)]
    rfl
  · rw [List.getElem?_eq_none (by rw [List.length_map, List.length_range]; omega), List.getElem?_eq_none (by omega)]
theorem at_id {n i : Nat} (h : i < n) : at0 (idN n) i = i := by
  unfold at0 idN
  rw [List.getD_eq_getElem?_getD, List.getElem?_range h]
  rfl
theorem then_id {n : Nat} {x : List Nat} (h : RowN n x) : thenN x (idN n) = x := by
  unfold thenN
  conv => rhs; rw [← List.map_id x]
  exact List.map_congr_left fun y hy => at_id (h.2 y hy)
theorem at_then {x m : List Nat} {i : Nat} (h : i < x.length) : at0 (thenN x m) i = at0 m (at0 x i) := by
  have e : (thenN x m)[i]? = some (at0 m (at0 x i)) := by
    unfold thenN
    rw [List.getElem?_map, at0_some h]
    rfl
  have e2 := at0_some (p := thenN x m) (i := i) (by unfold thenN; rw [List.length_map]; exact h)
  rw [e2] at e
  exact Option.some.inj e
theorem then_assoc {n : Nat} {x y m : List Nat} (hx : RowN n x) (hy : RowN n y) : thenN x (thenN y m) = thenN (thenN x y) m := by
  show x.map (at0 (thenN y m)) = (x.map (at0 y)).map (at0 m)
  rw [List.map_map]
  exact List.map_congr_left fun k hk => at_then (by rw [hy.1]; exact hx.2 k hk)
theorem Gen.mul {n : Nat} {gs : List (List Nat)} (hg : ∀ m ∈ gs, RowN n m) {x y : List Nat} (hx : Gen n gs x) (hy : Gen n gs y) : Gen n gs (thenN x y) := by
  induction hy with
  | one => rw [then_id (hx.row hg)]; exact hx
  | step h hm ih => rw [then_assoc (hx.row hg) (h.row hg)]; exact .step ih hm
theorem Gen.of {n : Nat} {gs : List (List Nat)} {m : List Nat} (hr : RowN n m) (h : m ∈ gs) : Gen n gs m := by
  have := Gen.step (.one (n := n)) h
  rw [id_then hr.1] at this
  exact this
/-- a list of all that some permutations make -/
structure Group (n : Nat) (gs rs : List (List Nat)) : Prop where
  nd : rs.Nodup
  all : ∀ x, x ∈ rs ↔ Gen n gs x
theorem Group.perm {n : Nat} {gs a b : List (List Nat)} (h1 : Group n gs a) (h2 : Group n gs b) : a.Perm b :=
  (List.perm_ext_iff_of_nodup h1.nd h2.nd).mpr fun x => (h1.all x).trans (h2.all x).symm
/-- a bound of what they make -/
structure Bnd (n : Nat) (gs L : List (List Nat)) (B : Nat) : Prop where
  rows : ∀ m ∈ gs, RowN n m
  one : idN n ∈ L
  step : ∀ x ∈ L, ∀ m ∈ gs, thenN x m ∈ L
  len : L.length ≤ B
theorem Bnd.le {n B : Nat} {gs L ms rs : List (List Nat)} (b : Bnd n gs L B) (hs : ∀ m ∈ ms, m ∈ gs) (nd : rs.Nodup) (h : ∀ x ∈ rs, Gen n ms x) : rs.length ≤ B := by
  refine Nat.le_trans (List.Nodup.length_le_of_subset nd fun x hx => ?_) b.len
  exact ((h x hx).mono hs).sub b.one b.step
/-- makers that make all -/
theorem group_of {n : Nat} {gs ms rs : List (List Nat)} (hg : ∀ m ∈ gs, RowN n m) (hs : ∀ m ∈ ms, m ∈ gs) (nd : rs.Nodup) (h1 : idN n ∈ rs) (h2 : ∀ x ∈ rs, ∀ m ∈ ms, thenN x m ∈ rs) (h3 : ∀ x ∈ rs, Gen n ms x) (h4 : ∀ m ∈ gs, m ∈ rs) : Group n gs rs := by
  have hm : ∀ m ∈ ms, RowN n m := fun m hm => hg m (hs m hm)
  refine ⟨nd, fun x => ⟨fun hx => (h3 x hx).mono hs, fun hx => ?_⟩⟩
  refine hx.sub h1 fun y hy m hmg => ?_
  exact (Gen.mul hm (h3 y hy) (h3 m (h4 m hmg))).sub h1 h2
/-! all permutations of a few places -/
def extP (n : Nat) : Nat → List (List Nat)
  | 0 => [[]]
  | k + 1 => (extP n k).flatMap fun l => ((List.range n).filter fun x => !l.contains x).map fun x => l ++ [x]
theorem ext_mem {n : Nat} : ∀ (k : Nat) (l : List Nat), l.length = k → (∀ x ∈ l, x < n) → l.Nodup → l ∈ extP n k
  | 0, l, hl, _, _ => by
    rw [List.length_eq_zero_iff.mp hl]
    exact List.mem_singleton.mpr rfl
  | k + 1, l, hl, hlt, nd => by
    have hne : l ≠ [] := fun e => by rw [e] at hl; exact nomatch hl
    obtain ⟨m, y, rfl⟩ : ∃ m y, l = m ++ [y] := ⟨l.dropLast, l.getLast hne, (List.dropLast_concat_getLast hne).symm⟩
    rw [List.length_append] at hl
    have nd' := List.nodup_append.mp nd
    refine List.mem_flatMap.mpr ⟨m, ext_mem k m (by simpa using hl) (fun x hx => hlt x (List.mem_append_left _ hx)) nd'.1, List.mem_map.mpr ⟨y, List.mem_filter.mpr ⟨List.mem_range.mpr (hlt y (List.mem_append_right _ List.mem_cons_self)), ?_⟩, rfl⟩⟩
    have : y ∉ m := fun hy => nd'.2.2 y hy y List.mem_cons_self rfl
    simpa using this
theorem Perm.then {n : Nat} {p q : List Nat} (hp : Perm n p) (hq : Perm n q) : Perm n (thenN p q) := by
  have hr := hp.row.then hq.row
  refine ⟨hr.1, hr.2, ?_⟩
  unfold thenN
  refine List.pairwise_iff_getElem.mpr fun i j hi hj hij e => ?_
  rw [List.length_map] at hi hj
  rw [List.getElem_map, List.getElem_map] at e
  have h1 := hq.inj (hp.lt _ (List.getElem_mem hi)) (hp.lt _ (List.getElem_mem hj)) e
  exact absurd h1 (List.pairwise_iff_getElem.mp hp.nd i j hi hj hij)
theorem Perm.id (n : Nat) : Perm n (idN n) := ⟨List.length_range, fun x hx => List.mem_range.mp hx, List.nodup_range⟩
theorem Perm.ext {n : Nat} {p : List Nat} (h : Perm n p) : p ∈ extP n n := ext_mem n p h.len h.lt h.nd
theorem ext_len {n : Nat} (h : n ≤ 6) : (extP n n).length ≤ 720 ∧ (extP n n).length = Nat.rec 1 (fun k f => (k + 1) * f) n := by
  match n, h with
  | 0, _ => decide +kernel
  | 1, _ => decide +kernel
  | 2, _ => decide +kernel
  | 3, _ => decide +kernel
  | 4, _ => decide +kernel
  | 5, _ => decide +kernel
  | 6, _ => decide +kernel
theorem ext_perm {n : Nat} : ∀ (k : Nat) (l : List Nat), l ∈ extP n k → l.length = k ∧ (∀ x ∈ l, x < n) ∧ l.Nodup
  | 0, l, h => by
    rw [List.mem_singleton.mp h]
    exact ⟨rfl, (fun x hx => nomatch hx), List.nodup_nil⟩
  | k + 1, l, h => by
    obtain ⟨m, hm, h2⟩ := List.mem_flatMap.mp h
    obtain ⟨y, hy, rfl⟩ := List.mem_map.mp h2
    obtain ⟨a, b, c⟩ := ext_perm k m hm
    obtain ⟨y1, y2⟩ := List.mem_filter.mp hy
    have hy' : y ∉ m := by simpa using y2
    refine ⟨by rw [List.length_append, a]; rfl, fun x hx => ?_, ?_⟩
    · rcases List.mem_append.mp hx with hx | hx
      · exact b x hx
      · rw [List.mem_singleton.mp hx]; exact List.mem_range.mp y1
    · refine List.nodup_append.mpr ⟨c, by simp, fun x hx z hz e => ?_⟩
      rw [List.mem_singleton.mp hz] at e
      subst e
      exact hy' hx
theorem bnd_small {n : Nat} {gs : List (List Nat)} (hn : n ≤ 6) (hg : ∀ m ∈ gs, Perm n m) : Bnd n gs (extP n n) (extP n n).length where
  rows := fun m hm => (hg m hm).row
  one := (Perm.id n).ext
  step := fun x hx m hm => by
    obtain ⟨a, b, c⟩ := ext_perm n x hx
    exact (Perm.then ⟨a, b, c⟩ (hg m hm)).ext
  len := Nat.le_refl _
theorem fact_ok : ∀ n, n ≤ 64 → ((Builtin.Math.factorialNat n : Nat) : Int).natAbs.log2 < bitsLine ∧ (n ≤ 6 → (extP n n).length ≤ Builtin.Math.factorialNat n) ∧ (7 ≤ n → 999 ≤ Builtin.Math.factorialNat n) := by
  have h : (List.range 65).all (fun n => decide (((Builtin.Math.factorialNat n : Nat) : Int).natAbs.log2 < bitsLine) && decide (n ≤ 6 → (extP n n).length ≤ Builtin.Math.factorialNat n) && decide (7 ≤ n → 999 ≤ Builtin.Math.factorialNat n)) = true := by decide +kernel
  intro n hn
  have h2 := List.all_eq_true.mp h n (List.mem_range.mpr (by omega))
  simp only [Bool.and_eq_true, decide_eq_true_eq] at h2
  exact ⟨h2.1.1, h2.1.2, h2.2⟩
def rFact : List V → Hp → VK → Prop := fun xs H Q => ∃ n : Nat, xs = [.int (n : Int)] ∧ n ≤ 64 ∧ Q (.int ((Builtin.Math.factorialNat n : Nat) : Int)) H
theorem call_factorial {X : Cx} : CallR X (.builtin "math.factorial") rFact := by
  rintro pins s σ H vs us Q I rs ⟨n, rfl, hn, q⟩
  obtain ⟨u, rfl, t, rfl⟩ := vals1 rs
  refine PySem.W.mg_factorial (by simp only [Builtin.Math.maxSsize]; omega) (by omega) (by simp only [Builtin.Math.manyFactors]; omega) (by rw [Int.toNat_natCast]; exact (fact_ok n hn).1) ?_
  rw [Int.toNat_natCast]
  exact ⟨.int _, H, I.tok _, ⟨_, rfl⟩, q⟩
theorem lay_rows : ∀ rs : List (List Nat), PyData.canLayAll0 (rs.map rowD) = true
  | [] => rfl
  | r :: rs => Bool.and_eq_true_iff.mpr ⟨by
      show PyData.canLayAll0 (r.map nD) = true
      rw [nat_ints]
      exact lay_ints _, lay_rows rs⟩
theorem depth_rows : ∀ rs : List (List Nat), PyData.depthAll (rs.map rowD) ≤ 2
  | [] => by decide
  | r :: rs => by
    show max (PyData.depthAll (r.map nD) + 1) (PyData.depthAll (rs.map rowD)) ≤ 2
    have h1 := depth_rows rs
    rw [nat_ints, depth_ints]
    omega
theorem shaped_rows (rs : List (List Nat)) : SeqAt.shaped (.list (rs.map rowD)) = true := by
  refine Bool.and_eq_true_iff.mpr ⟨lay_rows rs, decide_eq_true ?_⟩
  show PyData.depthAll (rs.map rowD) + 1 ≤ 64
  have := depth_rows rs
  omega
theorem eqv_all_rows : ∀ (a b : List (List Nat)), PyData.eqvAll (a.map rowD) (b.map rowD) = decide (a = b)
  | [], [] => by simp [PyData.eqvAll]
  | [], y :: b => by simp [PyData.eqvAll]
  | x :: a, [] => by simp [PyData.eqvAll]
  | x :: a, y :: b => by
    rw [List.map_cons, List.map_cons, PyData.eqvAll, eqv_rows, eqv_all_rows a b]
    simp [Bool.decide_and]
theorem eqv_lrows (a b : List (List Nat)) : PyData.eqv (.list (a.map rowD)) (.list (b.map rowD)) = decide (a = b) := by
  rw [PyData.eqv, eqv_all_rows]
theorem dp_rows {K : PySem.W.Frag} {H : Hp} {p : Addr} {ps : List (Addr × List Nat)} (h : SqL K H p (refsV ps)) (hall : ∀ q ∈ ps, SqT K H q.1 (q.2.map iV)) : Dp K H (.ref p) (.list ((ps.map (·.2)).map rowD)) := by
  refine .lst h ?_
  clear h
  induction ps with
  | nil => exact .nil
  | cons q ps ih => exact .cons ((row_of (hall q List.mem_cons_self)).dp _ _) (ih fun q' hq => hall q' (List.mem_cons_of_mem _ hq))
theorem fits_rows {rs : List (List Nat)} (h : rs.length ≤ 1000) (hr : ∀ r ∈ rs, r.length ≤ 1000) : fits 3 (.list (rs.map rowD)) := by
  have zl : (sizeLine : Nat) = 16777216 := by decide
  refine ⟨by rw [List.length_map]; omega, fun d hd => ?_⟩
  obtain ⟨r, hm, rfl⟩ := List.mem_map.mp hd
  exact fits_row 0 (hr r hm)
/-- rows that stand at addresses, each a tuple of its own -/
def TupR (H : Hp) (ps : List (Addr × List Nat)) : Prop := ∀ p ∈ ps, H p.1 = some (.tup (p.2.map iV))
theorem TupR.k {H H' : Hp} {ps : List (Addr × List Nat)} (h : TupR H ps) (e : Same H H') : TupR H' ps := fun p hp => e _ _ (h p hp)
theorem TupR.snoc {H : Hp} {ps : List (Addr × List Nat)} {b : Addr} {r : List Nat} (h : TupR H ps) (hb : H b = some (.tup (r.map iV))) : TupR H (ps ++ [(b, r)]) := fun p hp => by
  rcases List.mem_append.mp hp with hp | hp
  · exact h p hp
  · rw [List.mem_singleton.mp hp]; exact hb
end G
set_option Elab.async false
set_option linter.all false
set_option maxRecDepth 100000
set_option maxHeartbeats 4000000
namespace G
open PySem PySem.Spec PyProof.Rows L2
def rListN : List V → Hp → VK → Prop := fun xs H Q => ∃ (d : Addr) (rs : List (List Nat)), xs = [V.ref d] ∧ Rd H d (.dT (dictN rs)) ∧
  ∀ (p : Addr) (ps : List (Addr × List Nat)), H p = none → ps.map (·.2) = rs → TupR H ps → Q (.ref p) (upd H p (.lst (refsV ps)))
theorem keys_rows {H : Hp} : ∀ (rs : List (List Nat)) (bs : List Addr), IsKeys H (dictN rs) bs → ∃ ps : List (Addr × List Nat), ps.map (·.2) = rs ∧ TupR H ps ∧ bs.map V.ref = refsV ps
  | [], _, h => by
    cases (show Paired _ _ _ from h)
    exact ⟨[], rfl, (fun p hp => nomatch hp), rfl⟩
  | r :: rs, _, h => by
    cases (show Paired _ _ _ from h) with
    | @cons _ b _ bs h1 h2 =>
      obtain ⟨ps, e1, e2, e3⟩ := keys_rows rs bs h2
      have hb : H b = some (.tup ((kN r).map kV)) := h1
      rw [kN_row] at hb
      refine ⟨(b, r) :: ps, by rw [List.map_cons, e1], fun p hp => ?_, ?_⟩
      · rcases List.mem_cons.mp hp with rfl | hp
        · exact hb
        · exact e2 p hp
      · rw [List.map_cons, e3]
        rfl
section
variable {X : Cx} {H : Hp} {Q : VK} {K : PySem.W.Frag} {σ : L2.St} {te ty td tv : TE}
theorem call_listN (hc : X.calm = true) : CallR X (.type "list") rListN := by
  rintro pins s σ H xs us Q I rs ⟨d, rows, rfl, hd, key⟩
  refine call_list_dT hc pins s σ H _ us Q I rs ⟨d, _, rfl, hd, fun p bs hp hk => ?_⟩
  obtain ⟨ps, e1, e2, e3⟩ := keys_rows rows bs hk
  rw [e3]
  exact key p ps hp e1 e2
theorem r_listN {d : Addr} {rs : List (List Nat)} (h : H d = some (.dT (dictN rs))) (q : ∀ (p : Addr) (ps : List (Addr × List Nat)), H p = none → ps.map (·.2) = rs → TupR H ps → Q (.ref p) (upd H p (.lst (refsV ps)))) : rListN [.ref d] H Q := ⟨d, rs, rfl, .inl h, q⟩
theorem r_sortD {d : Addr} {rs : List (List Nat)} (h : H d = some (.dT (dictN rs))) (hn : ∀ r ∈ rs, r ≠ []) (q : ∀ (zs : List (Addr × List Nat)) (p : Addr), (zs.map (·.2)).Perm rs → sortedR zs → TupR H zs → H p = none → Q (.ref p) (upd H p (.lst (refsV zs)))) : rSortD [.ref d] H Q := ⟨d, rs, rfl, .inl h, hn, q⟩
theorem r_sortT {a : Addr} {ps : List (Addr × List Nat)} (h : SqL K H a (refsV ps)) (hall : ∀ p ∈ ps, SqT K H p.1 (p.2.map iV) ∧ p.2 ≠ []) (q : ∀ (zs : List (Addr × List Nat)) (p : Addr), zs.Perm ps → sortedR zs → H p = none → Q (.ref p) (upd H p (.lst (refsV zs)))) : rSortT K [.ref a] H Q := ⟨a, ps, rfl, h, hall, q⟩
theorem r_lenDT {d : Addr} {rs : List (List Nat)} (h : H d = some (.dT (dictN rs))) (q : Q (.int (rs.length : Nat)) H) : rLenT [.ref d] H Q := by
  refine ⟨d, dictN rs, rfl, h, ?_⟩
  rw [dictN_len]
  exact q
theorem r_dni {ty td : TE} (h : ty σ H fun y H1 => td σ H1 fun x H2 => ∃ a o, x = .ref a ∧ DGet H2 a y o ∧ Q (.bl (!o.isSome)) H2) : tDNotIn ty td σ H Q := h
open Classical in
theorem dni_at {d b : Addr} {rs : List (List Nat)} {r : List Nat} (h : H d = some (.dT (dictN rs))) (hb : H b = some (.tup (r.map iV))) : ∃ o, DGet H d (.ref b) o ∧ (!o.isSome) = decide (r ∉ rs) := by
  rw [← kN_row] at hb
  refine ⟨_, DGet.t h hb, ?_⟩
  by_cases e : r ∈ rs
  · rw [valV_in e, decide_eq_false (fun z => z e)]
    rfl
  · rw [valV_out e, decide_eq_true e]
    rfl
theorem r_dput {D : Ends} {td ty tv : TE} (h : tv σ H fun v H1 => td σ H1 fun x H2 => ty σ H2 fun y H3 => ∃ a H4, x = .ref a ∧ DPut H3 a y v H4 ∧ D.nx σ H4) : sDPut td ty tv D σ H := h
theorem r_dputE {D : Ends} {d b : Addr} {rs : List (List Nat)} {r : List Nat} (h : H d = some (.dT (dictN rs))) (hb : H b = some (.tup (r.map iV))) (hr : r ∉ rs) (hl : rs.length < sizeLine) (q : D.nx σ (upd H d (.dT (dictN (rs ++ [r]))))) : ∃ a H4, V.ref d = .ref a ∧ DPut H a (.ref b) (.bl true) H4 ∧ D.nx σ H4 := by
  rw [← kN_row] at hb
  refine ⟨d, _, rfl, DPut.t h hb (by rw [dictN_len]; exact hl), ?_⟩
  rw [putN hr]
  exact q
theorem r_dispT {tk tv : TE} (h : ∀ p, H p = none → tk σ (upd H p (.dT [])) fun x H1 => tv σ H1 fun y H2 => ∃ b r, x = .ref b ∧ H2 b = some (.tup ((r : List Nat).map iV)) ∧ H2 p = some (.dT []) ∧ y = .bl true ∧ Q (.ref p) (upd H2 p (.dT (dictN [r])))) : tDispT tk tv σ H Q := h
theorem at_refs {ps : List (Addr × List Nat)} {i : Nat} {p : Addr × List Nat} (h : ps[i]? = some p) : atI (refsV ps) (i : Int) = some (.ref p.1) := by
  refine at_of rfl ?_
  unfold refsV
  rw [List.getElem?_map, h]
  rfl
end
end G
namespace L40
open PySem PySem.Spec PyProof.Rows L2 G
local macro_rules | `(tactic| walk_at "rd1") => `(tactic| first
  | (with_reducible refine r_seq ?_) | (with_reducible refine r_set ?_)
  | ((with_reducible refine' r_var ?rdh ?_); (case rdh => exact rfl))
  | (with_reducible refine r_c ?_) | (with_reducible refine r_op ?_) | (with_reducible refine r_un ?_) | (with_reducible refine r_cb ?_)
  | (with_reducible refine r_cons ?_) | (with_reducible refine r_nil ?_) | (with_reducible refine r_call ?_)
  | (with_reducible refine r_test ?_) | (with_reducible refine r_tb ?_) | (with_reducible refine r_bl ?_)
  | (with_reducible refine r_if ?_) | (with_reducible refine r_yes ?_) | (with_reducible refine r_ifx ?_) | (with_reducible refine r_and ?_) | (with_reducible refine r_or ?_) | (with_reducible refine r_not ?_)
  | (with_reducible refine r_andV ?_) | (with_reducible refine r_orV ?_) | (with_reducible refine r_notV ?_)
  | (with_reducible refine r_ret ?_) | (with_reducible refine r_retN ?_) | (with_reducible refine r_next ?_) | (with_reducible refine r_drop ?_) | (with_reducible refine r_asg ?_)
  | (with_reducible refine r_tup ?_) | (with_reducible refine r_lst ?_)
  | (with_reducible refine r_I0 ?_) | (with_reducible refine r_U ?_) | (with_reducible refine r_eqI ?_) | (with_reducible refine r_neI ?_) | (with_reducible refine r_eqS ?_) | (with_reducible refine r_neS ?_) | (with_reducible refine r_eqB ?_) | (with_reducible refine r_neB ?_)
  | (with_reducible refine r_int1 ?_) | (with_reducible refine r_isN ?_) | (with_reducible refine r_notN ?_)
  | (with_reducible refine iteT ?_) | (with_reducible refine iteF ?_)
  | (with_reducible refine r_sl ?_) | (with_reducible refine r_noPart ?_) | (with_reducible refine r_part ?_) | (with_reducible refine r_pint ?_)
  | ((with_reducible refine' r_isi (.ty _) ?rdt ?rdk ?_); (case rdt => first | exact .base (.int _) | exact .base (.str _) | exact .base (.bl _) | exact .base .non | exact tyx_sqL (by assumption) | exact tyx_sqT (by assumption)); (case rdk => first | exact kt_NoneType_list | exact kt_NoneType_tuple | exact kt_NoneType_bool | exact kt_NoneType_int | exact kt_NoneType_str | exact kt_bool_list | exact kt_bool_tuple | exact kt_bool_bool | exact kt_bool_int | exact kt_bool_str | exact kt_int_list | exact kt_int_tuple | exact kt_int_bool | exact kt_int_int | exact kt_int_str | exact kt_str_list | exact kt_str_tuple | exact kt_str_bool | exact kt_str_int | exact kt_str_str | exact kt_list_list | exact kt_list_tuple | exact kt_list_bool | exact kt_list_int | exact kt_list_str | exact kt_tuple_list | exact kt_tuple_tuple | exact kt_tuple_bool | exact kt_tuple_int | exact kt_tuple_str))
  | (with_reducible refine r_gn ?_) | (with_reducible refine r_gsub ?_) | (with_reducible refine r_chain ?_) | (with_reducible refine r_inSg ?_) | (with_reducible refine r_notInSg ?_) | (with_reducible refine r_bmS ?_) | ((with_reducible show tLc _ _ _ _ _ _ _ _); (first | show iStr _ _ _ _ | show iList _ _ _ _ _ | show iTup _ _ _ _ _ | show iRng1 _ _ _ _ | show iRng2 _ _ _ _)) | (with_reducible refine r_iStr ?_) | (with_reducible refine r_iList ?_) | (with_reducible refine r_iTup ?_) | (with_reducible refine r_str1 ?_) | (with_reducible refine r_ref1 ?_)
  | (with_reducible refine iteNT ?_) | (with_reducible refine iteNF ?_)
  | (with_reducible refine r_fdiv ⟨by decide, by decide⟩ ?_) | (with_reducible refine r_mod (by first | decide | assumption) ?_) | (with_reducible refine r_mul (.inr ⟨by decide, by decide⟩) ?_) | (with_reducible refine r_mul (.inl ⟨by decide, by decide⟩) ?_) | (with_reducible refine r_pow ⟨by decide, by decide, by decide⟩ ?_)
  | ((with_reducible show tFor _ _ _ _ _ _); (first | show iStr _ _ _ _ | show iList _ _ _ _ _ | show iTup _ _ _ _ _ | show iRng1 _ _ _ _ | show iRng2 _ _ _ _)) | (with_reducible refine r_rng1 ?_) | (with_reducible refine r_bmL ?_) | (with_reducible refine r_break ?_) | (with_reducible refine r_cont ?_))
local macro_rules | `(tactic| walk_at "rd") => `(tactic| repeat walk_at "rd1")
section
def topS (i : Nat) : Stmt := PySem.Challenge.pw_turnsandthrows_k40_piece_machine.main.body.getD i (.Pass ⟨0, 0, 0, 0⟩)
abbrev s_piece_machine : Stmt := topS 1
abbrev N_piece_machine : List Str := ["acts", "steps", "place", "act"]
theorem sc_piece_machine : FnScope N_piece_machine ["acts"] (defScope s_piece_machine) := ⟨rfl, rfl, rfl, by decide +kernel, rfl, by decide +kernel, by decide +kernel⟩
abbrev s_l_cell : Stmt := topS 3
abbrev N_l_cell : List Str := ["script", "k"]
theorem sc_l_cell : FnScope N_l_cell ["script", "k"] (defScope s_l_cell) := ⟨rfl, rfl, rfl, by decide +kernel, rfl, by decide +kernel, by decide +kernel⟩
abbrev s_l_numbers : Stmt := topS 4
abbrev N_l_numbers : List Str := ["cell", "count", "numbers", "k", "mixed"]
theorem sc_l_numbers : FnScope N_l_numbers ["cell", "count"] (defScope s_l_numbers) := ⟨rfl, rfl, rfl, by decide +kernel, rfl, by decide +kernel, by decide +kernel⟩
abbrev s_l_same : Stmt := topS 5
abbrev N_l_same : List Str := ["actual", "due", "k"]
theorem sc_l_same : FnScope N_l_same ["actual", "due"] (defScope s_l_same) := ⟨rfl, rfl, rfl, by decide +kernel, rfl, by decide +kernel, by decide +kernel⟩
abbrev s_l_simple : Stmt := topS 6
abbrev N_l_simple : List Str := ["numbers", "places", "letters", "acts", "k", "draws", "p", "j", "other", "held"]
theorem sc_l_simple : FnScope N_l_simple ["numbers", "places", "letters"] (defScope s_l_simple) := ⟨rfl, rfl, rfl, by decide +kernel, rfl, by decide +kernel, by decide +kernel⟩
abbrev s_law : Stmt := topS 7
abbrev N_law : List Str := ["script", "numbers", "places", "acts", "handed", "due", "place", "act"]
theorem sc_law : FnScope N_law ["script"] (defScope s_law) := ⟨rfl, rfl, rfl, by decide +kernel, rfl, by decide +kernel, by decide +kernel⟩
structure Ad where
  f_piece_machine : Addr
  d_piece_machine : FuncData
  f_l_cell : Addr
  d_l_cell : FuncData
  f_l_numbers : Addr
  d_l_numbers : FuncData
  f_l_same : Addr
  d_l_same : FuncData
  f_l_simple : Addr
  d_l_simple : FuncData
  f_law : Addr
  d_law : FuncData
structure Txt (K : PySem.W.Frag) (mg : Str → Option Value) (a : Ad) : Prop where
  F_piece_machine : Fun K "piece_machine" "piece_machine" s_piece_machine a.f_piece_machine a.d_piece_machine
  b_piece_machine : Binds K a.d_piece_machine ["acts"] []
  g_piece_machine : mg "piece_machine" = some (.ref a.f_piece_machine)
  F_l_cell : Fun K "_law_cell" "_law_cell" s_l_cell a.f_l_cell a.d_l_cell
  b_l_cell : Binds K a.d_l_cell ["script", "k"] []
  g_l_cell : mg "_law_cell" = some (.ref a.f_l_cell)
  F_l_numbers : Fun K "_law_numbers" "_law_numbers" s_l_numbers a.f_l_numbers a.d_l_numbers
  b_l_numbers : Binds K a.d_l_numbers ["cell", "count"] []
  g_l_numbers : mg "_law_numbers" = some (.ref a.f_l_numbers)
  F_l_same : Fun K "_law_same" "_law_same" s_l_same a.f_l_same a.d_l_same
  b_l_same : Binds K a.d_l_same ["actual", "due"] []
  g_l_same : mg "_law_same" = some (.ref a.f_l_same)
  F_l_simple : Fun K "_law_simple" "_law_simple" s_l_simple a.f_l_simple a.d_l_simple
  b_l_simple : Binds K a.d_l_simple ["numbers", "places", "letters"] []
  g_l_simple : mg "_law_simple" = some (.ref a.f_l_simple)
  F_law : Fun K "law" "law" s_law a.f_law a.d_law
  b_law : Binds K a.d_law ["script"] []
  g_law : mg "law" = some (.ref a.f_law)
  z_bool : mg "bool" = none
  z_int : mg "int" = none
  z_isinstance : mg "isinstance" = none
  z_len : mg "len" = none
  z_list : mg "list" = none
  z_range : mg "range" = none
  z_str : mg "str" = none
  z_tuple : mg "tuple" = none
end

section
variable {P : Program} {w : World} {K : PySem.W.Frag} {mg : Str → Option Value} {base : Heap} {a : Ad}
theorem ok_l_cell (T : Txt K mg a) : FnOk P w K mg base CX0 1 a.f_l_cell a.d_l_cell ["script", "k"] (spCellG K) := by
  refine T.F_l_cell.ok sc_l_cell (fun vs H Q E h => ?_) (fun cdv A outer s H vs Q E hr h => ?_)
  · obtain ⟨l, ns, k, rfl, _⟩ := h
    rfl
  · obtain ⟨l, ns, k, rfl, hS, h0, q⟩ := h
    refine ⟨_, (pss_cons (ps_if (pt_cmpR op_lt (pv 1) (pe_callB (call_lenQK (K := K) rfl) (by rfl) T.z_len (by decide +kernel) (pa_cons (pv 0) pa_nil)) (nomark _)) (pss_one (ps_ret (pe_ix (ix_listK (K := K) rfl) (pv 0) (pv 1) (fun _ _ => rfl)))) pss_nil)
      (pss_one (ps_ret pe_int))), ?_⟩
    walk_at "rd"
    refine r_lenL hS ?_
    walk_at "rd"
    rw [List.length_map]
    refine r_iteD (fun hk => ?_) (fun hk => ?_)
    · walk_at "rd"
      have hk' : k.toNat < ns.length := by omega
      refine r_ixL hS (at_of (j := k.toNat) (by omega) (by rw [List.getElem?_map, List.getElem?_eq_getElem hk']; rfl)) ?_
      have e : cellV ns k = ns[k.toNat] := by unfold cellV; rw [List.getD_eq_getElem?_getD, List.getElem?_eq_getElem hk']; rfl
      rw [e] at q
      exact q
    · walk_at "rd"
      have e : cellV ns k = 0 := by unfold cellV; rw [List.getD_eq_getElem?_getD, List.getElem?_eq_none (by omega)]; rfl
      rw [e] at q
      exact q

theorem ok_l_numbers (T : Txt K mg a) : FnOk P w K mg base CX0 1 a.f_l_numbers a.d_l_numbers ["cell", "count"] (spNums K) := by
  refine T.F_l_numbers.ok sc_l_numbers (fun vs H Q E h => ?_) (fun cdv A outer s H vs Q E hr h => ?_)
  · obtain ⟨c, n, rfl, _⟩ := h
    rfl
  · obtain ⟨c, n, rfl, hn, q⟩ := h
    refine ⟨_, (pss_cons (ps_set (i := 2) sc_l_numbers.nd rfl (Or.inl rfl) (pe_lst pa_nil))
      (pss_cons (ps_if (pt_cmpR op_ge (pv 0) (pe_op op_pow pe_int pe_int) (nomark _)) (pss_cons (ps_for PassesOwn.never rfl (pi_range1 (by rfl) T.z_range (pa_cons (pv 1) pa_nil)) (pg_name (i := 3) sc_l_numbers.nd rfl (Or.inl rfl)) (pss_cons (ps_expr (bmK (K := K) rfl (pe_bm PySem.F.plainAttrs_list PySem.F.slot_list_append PySem.F.type_list_append mt_append (pv 2) (pa_cons (pe_op op_mod (pe_callTy call_int1' (by rfl) T.z_int (by decide +kernel) (pa_cons (pv 0) pa_nil)) pe_int) pa_nil))))
      (pss_one (ps_set (i := 0) sc_l_numbers.nd rfl (Or.inl rfl) (pe_op op_fdiv (pv 0) pe_int)))))
      (pss_one (ps_ret (pv 2)))) pss_nil)
      (pss_cons (ps_set (i := 4) sc_l_numbers.nd rfl (Or.inl rfl) (pe_op op_mod (pe_callTy call_int1' (by rfl) T.z_int (by decide +kernel) (pa_cons (pv 0) pa_nil)) pe_int))
      (pss_cons (ps_for PassesOwn.never rfl (pi_range1 (by rfl) T.z_range (pa_cons (pv 1) pa_nil)) (pg_name (i := 3) sc_l_numbers.nd rfl (Or.inl rfl)) (pss_cons (ps_set (i := 4) sc_l_numbers.nd rfl (Or.inl rfl) (pe_op op_mod (pe_callTy call_int1' (by rfl) T.z_int (by decide +kernel) (pa_cons (pe_op op_add (pe_op op_mul (pv 4) pe_int) (pe_op op_mul pe_int (pe_op op_add (pv 3) pe_int))) pa_nil)) pe_int))
      (pss_one (ps_expr (bmK (K := K) rfl (pe_bm PySem.F.plainAttrs_list PySem.F.slot_list_append PySem.F.type_list_append mt_append (pv 2) (pa_cons (pe_op op_mod (pe_op op_fdiv (pv 4) pe_int) pe_int) pa_nil)))))))
      (pss_one (ps_ret (pv 2))))))), ?_⟩
    have zl : (sizeLine : Nat) = 16777216 := by decide
    walk_at "rd"
    refine ⟨by decide, fun p hp => ?_⟩
    walk_at "rd"
    refine r_iteD (fun _ => ?_) (fun _ => ?_)
    · walk_at "rd"
      refine r_rng1' (by omega) (by omega) ?_
      rw [Int.toNat_natCast]
      refine for_range (lo := 0) (n := n) (fun i σ H' => ∃ c' ns y3, σ = [some (.int c'), some (.int (n : Int)), some (.ref p), y3, none] ∧ Same H H' ∧ H' p = some (.lst (ns.map V.int)) ∧ ns.length = i ∧ ∀ z ∈ ns, 0 ≤ z ∧ z < 1000)
        ⟨c, [], none, rfl, same_new hp, upd_same, rfl, fun z hz => nomatch hz⟩ (fun i σ H' hi hP => ?_) (fun σ H' hP => ?_)
      · obtain ⟨c', ns, y3, rfl, sm, hN, hl, hz⟩ := hP
        walk_at "rd"
        refine ⟨ty_l (SqL.of hN), ?_⟩
        walk_at "rd"
        refine r_append hN (by rw [List.length_map]; omega) ?_
        walk_at "rd"
        refine ⟨_, ns ++ [c' % 1000], _, rfl, same_mut sm hp, by rw [upd_same, List.map_append]; rfl, by rw [List.length_append, hl]; rfl, fun z h => ?_⟩
        rcases List.mem_append.mp h with h | h
        · exact hz z h
        · rw [List.mem_singleton.mp h]; exact emod_rng _ (by decide)
      · obtain ⟨c', ns, y3, rfl, sm, hN, hl, hz⟩ := hP
        walk_at "rd"
        exact q H' p ns sm hp hN hl hz
    · walk_at "rd"
      refine r_rng1' (by omega) (by omega) ?_
      rw [Int.toNat_natCast]
      refine for_range (lo := 0) (n := n) (fun i σ H' => ∃ m ns y3, σ = [some (.int c), some (.int (n : Int)), some (.ref p), y3, some (.int m)] ∧ Same H H' ∧ H' p = some (.lst (ns.map V.int)) ∧ ns.length = i ∧ ∀ z ∈ ns, 0 ≤ z ∧ z < 1000)
        ⟨_, [], none, rfl, same_new hp, upd_same, rfl, fun z hz => nomatch hz⟩ (fun i σ H' hi hP => ?_) (fun σ H' hP => ?_)
      · obtain ⟨m, ns, y3, rfl, sm, hN, hl, hz⟩ := hP
        walk_at "rd"
        refine ⟨ty_l (SqL.of hN), ?_⟩
        walk_at "rd"
        refine r_append hN (by rw [List.length_map]; omega) ?_
        refine ⟨_, ns ++ [_ / 7 % 1000], _, rfl, same_mut sm hp, by rw [upd_same, List.map_append]; rfl, by rw [List.length_append, hl]; rfl, fun z h => ?_⟩
        rcases List.mem_append.mp h with h | h
        · exact hz z h
        · rw [List.mem_singleton.mp h]; exact emod_rng _ (by decide)
      · obtain ⟨m, ns, y3, rfl, sm, hN, hl, hz⟩ := hP
        walk_at "rd"
        exact q H' p ns sm hp hN hl hz

end

section
variable {P : Program} {w : World} {K : PySem.W.Frag} {mg : Str → Option Value} {base : Heap} {a : Ad}
theorem ok_l_same_n (T : Txt K mg a) : ∀ n, FnOk P w K mg base CX0 n a.f_l_same a.d_l_same ["actual", "due"] (spSame K n)
  | 0 => fn_vac fun vs H Q E h => by
    obtain ⟨x, y, d, _, _, _, hf, _⟩ := h
    cases d <;> exact hf
  | n + 1 => by
    have G_l_same := ok_l_same_n T n
    refine T.F_l_same.ok sc_l_same (fun vs H Q E h => ?_) (fun cdv A outer s H vs Q E hr h => ?_)
    · obtain ⟨x, y, d, rfl, _⟩ := h
      rfl
    · obtain ⟨x, y, d, rfl, hx, hy, hf, q⟩ := h
      refine ⟨_, (pss_cons (ps_if (pt_cmpR op_isN1 (pv 1) pe_non (nomark _)) (pss_one (ps_ret (pe_cmpR op_isN1 (pv 0) pe_non (nomark _)))) pss_nil)
      (pss_cons (ps_if (PW.pt (pw_or (pt_val (pe_callB (call_isiK1 (K := K) rfl) (by rfl) T.z_isinstance (by decide +kernel) (pa_cons (pv 1) (pa_cons (pe_bltn (by rfl) T.z_list (v := V.ty "list") (u := Value.type "list") (by decide +kernel) rfl) pa_nil)))) (pw_or1 (pt_val (pe_callB (call_isiK1 (K := K) rfl) (by rfl) T.z_isinstance (by decide +kernel) (pa_cons (pv 1) (pa_cons (pe_bltn (by rfl) T.z_tuple (v := V.ty "tuple") (u := Value.type "tuple") (by decide +kernel) rfl) pa_nil))))))) (pss_cons (ps_if (PW.pt (pw_or (pt_cmpR op_ne (pe_callB (call_isiK1 (K := K) rfl) (by rfl) T.z_isinstance (by decide +kernel) (pa_cons (pv 1) (pa_cons (pe_bltn (by rfl) T.z_list (v := V.ty "list") (u := Value.type "list") (by decide +kernel) rfl) pa_nil))) (pe_callB (call_isiK1 (K := K) rfl) (by rfl) T.z_isinstance (by decide +kernel) (pa_cons (pv 0) (pa_cons (pe_bltn (by rfl) T.z_list (v := V.ty "list") (u := Value.type "list") (by decide +kernel) rfl) pa_nil))) (nomark _)) (pw_or1 (pt_cmpR op_ne (pe_callB (call_isiK1 (K := K) rfl) (by rfl) T.z_isinstance (by decide +kernel) (pa_cons (pv 1) (pa_cons (pe_bltn (by rfl) T.z_tuple (v := V.ty "tuple") (u := Value.type "tuple") (by decide +kernel) rfl) pa_nil))) (pe_callB (call_isiK1 (K := K) rfl) (by rfl) T.z_isinstance (by decide +kernel) (pa_cons (pv 0) (pa_cons (pe_bltn (by rfl) T.z_tuple (v := V.ty "tuple") (u := Value.type "tuple") (by decide +kernel) rfl) pa_nil))) (nomark _))))) (pss_one (ps_ret pe_bl)) pss_nil)
      (pss_cons (ps_if (pt_cmpR op_ne (pe_callB (call_lenQK (K := K) rfl) (by rfl) T.z_len (by decide +kernel) (pa_cons (pv 0) pa_nil)) (pe_callB (call_lenQK (K := K) rfl) (by rfl) T.z_len (by decide +kernel) (pa_cons (pv 1) pa_nil)) (nomark _)) (pss_one (ps_ret pe_bl)) pss_nil)
      (pss_cons (ps_for PassesOwn.never rfl (pi_range1 (by rfl) T.z_range (pa_cons (pe_callB (call_lenQK (K := K) rfl) (by rfl) T.z_len (by decide +kernel) (pa_cons (pv 1) pa_nil)) pa_nil)) (pg_name (i := 2) sc_l_same.nd rfl (Or.inl rfl)) (pss_one (ps_if (pt_not (pt_val (pe_call (G_l_same) (hr.mono (by first | decide | omega)) (by rfl) T.g_l_same T.F_l_same.kp T.b_l_same .nil pass0 (pa_cons (pe_ix (ix_seqK (K := K) rfl) (pv 0) (pv 2) (fun _ _ => rfl)) (pa_cons (pe_ix (ix_seqK (K := K) rfl) (pv 1) (pv 2) (fun _ _ => rfl)) pa_nil))))) (pss_one (ps_ret pe_bl)) pss_nil)))
      (pss_one (ps_ret pe_bl))))) pss_nil)
      (pss_cons (ps_if (PW.pt (pw_or (pt_cmpR op_ne (pe_callB (call_isiK1 (K := K) rfl) (by rfl) T.z_isinstance (by decide +kernel) (pa_cons (pv 1) (pa_cons (pe_bltn (by rfl) T.z_bool (v := V.ty "bool") (u := Value.type "bool") (by decide +kernel) rfl) pa_nil))) (pe_callB (call_isiK1 (K := K) rfl) (by rfl) T.z_isinstance (by decide +kernel) (pa_cons (pv 0) (pa_cons (pe_bltn (by rfl) T.z_bool (v := V.ty "bool") (u := Value.type "bool") (by decide +kernel) rfl) pa_nil))) (nomark _)) (pw_or1 (pt_cmpR op_ne (pe_callB (call_isiK1 (K := K) rfl) (by rfl) T.z_isinstance (by decide +kernel) (pa_cons (pv 1) (pa_cons (pe_bltn (by rfl) T.z_int (v := V.ty "int") (u := Value.type "int") (by decide +kernel) rfl) pa_nil))) (pe_callB (call_isiK1 (K := K) rfl) (by rfl) T.z_isinstance (by decide +kernel) (pa_cons (pv 0) (pa_cons (pe_bltn (by rfl) T.z_int (v := V.ty "int") (u := Value.type "int") (by decide +kernel) rfl) pa_nil))) (nomark _))))) (pss_one (ps_ret pe_bl)) pss_nil)
      (pss_one (ps_ret (pe_and (pe_cmpR op_eq (pe_callB (call_isiK1 (K := K) rfl) (by rfl) T.z_isinstance (by decide +kernel) (pa_cons (pv 1) (pa_cons (pe_bltn (by rfl) T.z_str (v := V.ty "str") (u := Value.type "str") (by decide +kernel) rfl) pa_nil))) (pe_callB (call_isiK1 (K := K) rfl) (by rfl) T.z_isinstance (by decide +kernel) (pa_cons (pv 0) (pa_cons (pe_bltn (by rfl) T.z_str (v := V.ty "str") (u := Value.type "str") (by decide +kernel) rfl) pa_nil))) (nomark _)) (pe_one (pe_cmpR op_eq (pv 0) (pv 1) (nomark _))))))))), ?_⟩
      walk_at "rd"
      cases d with
      | none =>
        cases hx; cases hy
        refine r_iteD (fun _ => ?_) (fun e => absurd rfl e)
        walk_at "rd"
        exact q
      | bool b =>
        cases hx; cases hy
        refine r_iteD (fun e => nomatch e) (fun _ => ?_)
        walk_at "rd"
        refine r_iteN (fun e => absurd rfl e) (fun _ => ?_)
        walk_at "rd"
        refine r_iteN (fun e => absurd rfl e) (fun _ => ?_)
        walk_at "rd"
        refine r_iteD (fun _ => ?_) (fun e => absurd rfl e)
        walk_at "rd"
        rw [decide_eq_true rfl]
        exact q
      | int b =>
        cases hx; cases hy
        refine r_iteD (fun e => nomatch e) (fun _ => ?_)
        walk_at "rd"
        refine r_iteN (fun e => absurd rfl e) (fun _ => ?_)
        walk_at "rd"
        refine r_iteN (fun e => absurd rfl e) (fun _ => ?_)
        walk_at "rd"
        refine r_iteD (fun _ => ?_) (fun e => absurd rfl e)
        walk_at "rd"
        rw [decide_eq_true rfl]
        exact q
      | str b =>
        cases hx; cases hy
        refine r_iteD (fun e => nomatch e) (fun _ => ?_)
        walk_at "rd"
        refine r_iteN (fun e => absurd rfl e) (fun _ => ?_)
        walk_at "rd"
        refine r_iteN (fun e => absurd rfl e) (fun _ => ?_)
        walk_at "rd"
        refine r_iteD (fun _ => ?_) (fun e => absurd rfl e)
        walk_at "rd"
        rw [decide_eq_true rfl]
        exact q
      | dict _ => exact hf.elim
      | list ds =>
        cases hx with
        | lst hs1 ha1 =>
        cases hy with
        | lst hs2 ha2 =>
        have e1 := dpAll_len ha1
        have e2 := dpAll_len ha2
        refine r_iteD (fun e => nomatch e) (fun _ => ?_)
        walk_at "rd"
        refine r_iteN (fun e => absurd rfl e) (fun _ => ?_)
        walk_at "rd"
        refine r_iteN (fun e => absurd rfl e) (fun _ => ?_)
        walk_at "rd"
        refine r_lenL hs1 ?_
        walk_at "rd"
        refine r_lenL hs2 ?_
        walk_at "rd"
        refine r_iteN (fun e => absurd (by rw [e1, e2]) e) (fun _ => ?_)
        walk_at "rd"
        refine r_lenL hs2 ?_
        walk_at "rd"
        have hz : ds.length ≤ 16777216 := hf.1
        refine r_rng1' (by omega) (by omega) ?_
        rw [e2, Int.toNat_natCast]
        refine for_range (lo := 0) (n := ds.length) (fun i σ H' => H' = H ∧ ∃ kv, σ = [some _, some _, kv]) ⟨rfl, _, rfl⟩ (fun i σ H' hi hP => ?_) (fun σ H' hP => ?_)
        · obtain ⟨rfl, kv, rfl⟩ := hP
          obtain ⟨v1, g1, d1⟩ := dpAll_get ha1 (List.getElem?_eq_getElem hi)
          obtain ⟨v2, g2, d2⟩ := dpAll_get ha2 (List.getElem?_eq_getElem hi)
          show tIfS _ _ _ _ _ _
          walk_at "rd"
          refine r_xL hs1 (at_of (j := i) (by omega) g1) ?_
          walk_at "rd"
          refine r_xL hs2 (at_of (j := i) (by omega) g2) ?_
          walk_at "rd"
          refine ⟨v1, v2, ds[i], rfl, d1, d2, hf.2 _ (List.getElem_mem hi), ?_⟩
          walk_at "rd"
          exact ⟨rfl, _, rfl⟩
        · obtain ⟨rfl, kv, rfl⟩ := hP
          walk_at "rd"
          exact q
      | tuple ds =>
        cases hx with
        | tup hs1 ha1 =>
        cases hy with
        | tup hs2 ha2 =>
        have e1 := dpAll_len ha1
        have e2 := dpAll_len ha2
        refine r_iteD (fun e => nomatch e) (fun _ => ?_)
        walk_at "rd"
        refine r_iteN (fun e => absurd rfl e) (fun _ => ?_)
        walk_at "rd"
        refine r_iteN (fun e => absurd rfl e) (fun _ => ?_)
        walk_at "rd"
        refine r_lenT hs1 ?_
        walk_at "rd"
        refine r_lenT hs2 ?_
        walk_at "rd"
        refine r_iteN (fun e => absurd (by rw [e1, e2]) e) (fun _ => ?_)
        walk_at "rd"
        refine r_lenT hs2 ?_
        walk_at "rd"
        have hz : ds.length ≤ 16777216 := hf.1
        refine r_rng1' (by omega) (by omega) ?_
        rw [e2, Int.toNat_natCast]
        refine for_range (lo := 0) (n := ds.length) (fun i σ H' => H' = H ∧ ∃ kv, σ = [some _, some _, kv]) ⟨rfl, _, rfl⟩ (fun i σ H' hi hP => ?_) (fun σ H' hP => ?_)
        · obtain ⟨rfl, kv, rfl⟩ := hP
          obtain ⟨v1, g1, d1⟩ := dpAll_get ha1 (List.getElem?_eq_getElem hi)
          obtain ⟨v2, g2, d2⟩ := dpAll_get ha2 (List.getElem?_eq_getElem hi)
          show tIfS _ _ _ _ _ _
          walk_at "rd"
          refine r_xT hs1 (at_of (j := i) (by omega) g1) ?_
          walk_at "rd"
          refine r_xT hs2 (at_of (j := i) (by omega) g2) ?_
          walk_at "rd"
          refine ⟨v1, v2, ds[i], rfl, d1, d2, hf.2 _ (List.getElem_mem hi), ?_⟩
          walk_at "rd"
          exact ⟨rfl, _, rfl⟩
        · obtain ⟨rfl, kv, rfl⟩ := hP
          walk_at "rd"
          exact q
theorem ok_l_same (T : Txt K mg a) : FnOk P w K mg base CX0 4 a.f_l_same a.d_l_same ["actual", "due"] (spSame K 4) := ok_l_same_n T _

end

def colN (ps : List (Addr × List Nat)) (i : Nat) : List Nat := ps.map fun p => at0 p.2 i
def pieceM (ps : List (Addr × List Nat)) (n : Nat) : Mac := ⟨(List.range n).map (colN ps), 0, []⟩
section
variable {P : Program} {w : World} {K : PySem.W.Frag} {mg : Str → Option Value} {base : Heap} {a : Ad}
def spPiece (K : PySem.W.Frag) : Sp := fun vs H Q _ => ∃ (pa : Addr) (ps : List (Addr × List Nat)) (n : Nat), vs = [.ref pa] ∧ SqL K H pa (refsV ps) ∧ (∀ p ∈ ps, SqT K H p.1 (p.2.map iV) ∧ p.2.length = n) ∧ 1 ≤ ps.length ∧ ps.length ≤ 4 ∧ n ≤ 5 ∧
  ∀ (H' : Hp) (v : V), Same H H' → Dt K H' v (macD (pieceM ps n)) → Q v H'
theorem ok_piece_machine (T : Txt K mg a) : FnOk P w K mg base CX0 1 a.f_piece_machine a.d_piece_machine ["acts"] (spPiece K) := by
  refine T.F_piece_machine.ok sc_piece_machine (fun vs H Q E h => ?_) (fun cdv A outer s H vs Q E hr h => ?_)
  · obtain ⟨pa, ps, n, rfl, _⟩ := h
    rfl
  · obtain ⟨pa, ps, n, rfl, hS, hps, p1, p4, n5, q⟩ := h
    have zl : (sizeLine : Nat) = 16777216 := by decide
    obtain ⟨q0, hq0⟩ : ∃ q0, ps[0]? = some q0 := ⟨_, List.getElem?_eq_getElem (by omega)⟩
    obtain ⟨t0, l0⟩ := hps q0 (List.mem_of_getElem? hq0)
    have lr : (refsV ps).length = ps.length := List.length_map _
    refine ⟨_, (pss_cons (ps_setLc (i := 1) (own := [("place", 2)]) (g := gName 2) (tt := tYes) rfl sc_piece_machine.nd rfl rfl (sw_true rfl rfl rfl (by decide +kernel)) (pi_range1 (by rfl) T.z_range (pa_cons (pe_callB (call_lenQK (K := K) rfl) (by rfl) T.z_len (by decide +kernel) (pa_cons (pe_ix (ix_listK (K := K) rfl) (pv 0) pe_int (fun _ _ => rfl)) pa_nil)) pa_nil)) (blkOk_by (N := N_piece_machine) (sc := (defScope s_piece_machine)) (by decide +kernel)) (fun _ _ _ _ _ => pg_name (i := 2) sc_piece_machine.nd rfl (by first | exact Or.inl rfl | exact Or.inr rfl)) (fun _ _ _ _ _ => pts_nil) (fun _ _ _ _ _ => (pe_callTy (call_tupOfK (K := K) rfl) (by rfl) T.z_tuple (by decide +kernel) (pa_cons (pe_lc (own := [("act", 3)]) (g := gName 3) (tt := tYes) rfl sc_piece_machine.nd (pi_listK (K := K) rfl (pv 0)) (blkOk_by (N := N_piece_machine) (sc := (relS (eScope (sE (sIn 0 s_piece_machine))) (defScope s_piece_machine))) (by decide +kernel)) (fun _ _ _ _ _ => pg_name (i := 3) sc_piece_machine.nd rfl (by first | exact Or.inl rfl | exact Or.inr rfl)) (fun _ _ _ _ _ => pts_nil) (fun _ _ _ _ _ => (pe_ix (ix_tupK (K := K) rfl) (pv 3) (pv 2) (fun _ _ => rfl)))) pa_nil))))
      (pss_one (ps_ret (pe_tup (pa_cons (pe_callTy (call_tupOfK (K := K) rfl) (by rfl) T.z_tuple (by decide +kernel) (pa_cons (pv 1) pa_nil)) (pa_cons pe_int (pa_cons (pe_tup pa_nil) pa_nil))))))), ?_⟩
    walk_at "rd"
    refine r_ixL hS (at_refs (i := 0) hq0) ?_
    walk_at "rd"
    refine r_lenT t0 ?_
    rw [List.length_map, l0]
    walk_at "rd"
    refine r_rng1' (by omega) (by omega) ?_
    rw [Int.toNat_natCast]
    intro D hD
    refine lc_range (lo := 0) (n := n) (fun i G => Same H G ∧ ∃ vs : List V, G D = some (.lst vs) ∧ DtAll K G vs (((List.range i).map (colN ps)).map rowD)) ⟨same_new hD, [], upd_same, .nil⟩ (fun i G hi hP => ?_) (fun G hP => ?_)
    · obtain ⟨sG, vs, hG, hdt⟩ := hP
      refine ⟨rfl, r_yes (iteT ?_)⟩
      walk_at "rd"
      refine ⟨⟨_, sG.seq hS⟩, fun D3 hD3 => ?_⟩
      refine lc_list (xs := refsV ps) (fun j G3 => Same G G3 ∧ G3 D3 = some (.lst ((colN (ps.take j) i).map iV))) ⟨same_new hD3, upd_same⟩ (fun j G3 _ hP => ?_) (fun j x G3 hx hP => ?_) (fun G3 hP => ?_)
      · exact hP.1.seq (sG.seq hS)
      · obtain ⟨sG3, hG3⟩ := hP
        obtain ⟨q1, hq1, rfl⟩ : ∃ q1, ps[j]? = some q1 ∧ V.ref q1.1 = x := by
          unfold refsV at hx
          rw [List.getElem?_map] at hx
          exact Option.map_eq_some_iff.mp hx
        obtain ⟨t1, l1⟩ := hps q1 (List.mem_of_getElem? hq1)
        have hj := (List.getElem?_eq_some_iff.mp hq1).1
        refine ⟨rfl, r_yes (iteT ?_)⟩
        walk_at "rd"
        rw [Int.zero_add]
        refine r_ixT (same_t (sG.trans sG3) t1) (at_row (by omega)) ?_
        refine ⟨_, hG3, by rw [List.length_map]; unfold colN; rw [List.length_map, List.length_take]; omega, same_mut sG3 hD3, ?_⟩
        rw [upd_same, List.take_add_one, hq1]
        unfold colN
        rw [List.map_append, List.map_append]
        rfl
      · obtain ⟨sG3, hG3⟩ := hP
        rw [lr, List.take_length] at hG3
        walk_at "rd"
        refine r_tupL (SqL.of hG3) (fun t ht => ?_)
        have s4 : Same G (upd G3 t (.tup ((colN ps i).map iV))) := sG3.trans (same_new ht)
        refine ⟨vs, s4 _ _ hG, ?_, same_mut (sG.trans s4) hD, vs ++ [.ref t], upd_same, ?_⟩
        · have := hdt.len
          rw [List.length_map, List.length_map, List.length_range] at this
          omega
        · rw [List.range_succ, List.map_append, List.map_append]
          have sT : SameT (upd G3 t (.tup ((colN ps i).map iV))) (upd (upd G3 t (.tup ((colN ps i).map iV))) D (.lst (vs ++ [.ref t]))) := SameT.lst (s4 _ _ hG)
          exact (hdt.k ((sT_of s4).trans sT)).snoc (.tup (sT.sq (SqT.of upd_same)) (ofNats _))
    · obtain ⟨sG, vs, hG, hdt⟩ := hP
      walk_at "rd"
      refine r_tupL (SqL.of hG) (fun ts hts => ?_)
      walk_at "rd"
      refine ⟨Nat.zero_le _, fun te hte => ?_⟩
      walk_at "rd"
      refine ⟨ln3, fun t ht => ?_⟩
      have s1 : Same G (upd (upd (upd G ts (.tup vs)) te (.tup [])) t (.tup [V.ref ts, V.int 0, V.ref te])) := (same_new hts).trans ((same_new hte).trans (same_new ht))
      have hts2 := (same_new (o := .tup [V.ref ts, V.int 0, V.ref te]) ht) _ _ ((same_new (o := .tup []) hte) _ _ (upd_same (H := G) (a := ts) (o := .tup vs)))
      have hte2 := (same_new (o := .tup [V.ref ts, V.int 0, V.ref te]) ht) _ _ (upd_same (H := upd G ts (.tup vs)) (a := te) (o := .tup []))
      refine q _ (.ref t) (sG.trans s1) ?_
      refine .tup (SqT.of upd_same) (.cons (.tup (SqT.of hts2) (hdt.k (sT_of s1))) (.cons (.int 0) (.cons (.tup (SqT.of hte2) .nil) .nil)))
end

section
variable {P : Program} {w : World} {K : PySem.W.Frag} {mg : Str → Option Value} {base : Heap} {a : Ad}
def spSimple (K : PySem.W.Frag) : Sp := fun vs H Q _ => ∃ (pn : Addr) (ns : List Int) (n m : Nat), vs = [.ref pn, iV n, iV m] ∧ SqL K H pn (ns.map V.int) ∧ 8 * m + 6 ≤ ns.length + 8 ∧ ns.length ≤ 10000 ∧ 1 ≤ n ∧ n ≤ 5 ∧ m ≤ 4 ∧
  ∀ (H' : Hp) (p : Addr) (ps : List (Addr × List Nat)), Same H H' → H p = none → H' p = some (.lst (refsV ps)) → ps.length = m → (∀ q ∈ ps, H' q.1 = some (.tup (q.2.map iV)) ∧ q.2.length = n) → Q (.ref p) H'
theorem ok_l_simple (T : Txt K mg a) : FnOk P w K mg base CX0 1 a.f_l_simple a.d_l_simple ["numbers", "places", "letters"] (spSimple K) := by
  refine T.F_l_simple.ok sc_l_simple (fun vs H Q E h => ?_) (fun cdv A outer s H vs Q E hr h => ?_)
  · obtain ⟨pn, ns, n, m, rfl, _⟩ := h
    rfl
  · obtain ⟨pn, ns, n, m, rfl, hN, hlen, hbig, n1, n5, m4, q⟩ := h
    have zl : (sizeLine : Nat) = 16777216 := by decide
    have hn0 : (0 : Int) < (n : Int) := by omega
    refine ⟨_, (pss_cons (ps_set (i := 3) sc_l_simple.nd rfl (Or.inl rfl) (pe_lst pa_nil))
      (pss_cons (ps_for PassesOwn.never rfl (pi_range1 (by rfl) T.z_range (pa_cons (pv 2) pa_nil)) (pg_name (i := 4) sc_l_simple.nd rfl (Or.inl rfl)) (pss_cons (ps_set (i := 5) sc_l_simple.nd rfl (Or.inl rfl) (pe_slice (sl_listK (K := K) rfl) (pv 0) (po_some (pe_op op_mul pe_int (pv 4))) po_none))
      (pss_one (ps_if (pt_cmpR op_eq (pe_op op_mod (pe_ix (ix_listK (K := K) rfl) (pv 5) pe_int (fun _ _ => rfl)) pe_int) pe_int (nomark _)) (pss_one (ps_expr (bmK (K := K) rfl (pe_bm PySem.F.plainAttrs_list PySem.F.slot_list_append PySem.F.type_list_append mt_append (pv 3) (pa_cons (pe_callTy (call_tupOfK (K := K) rfl) (by rfl) T.z_tuple (by decide +kernel) (pa_cons (pe_op op_rep (pe_lst (pa_cons (pe_op op_mod (pe_ix (ix_listK (K := K) rfl) (pv 5) pe_int (fun _ _ => rfl)) (pv 1)) pa_nil)) (pv 1)) pa_nil)) pa_nil))))) (pss_cons (ps_set (i := 6) sc_l_simple.nd rfl (Or.inl rfl) (pe_listRg rfl (by rfl) T.z_list (prg_1 (by rfl) T.z_range (pv 1))))
      (pss_cons (ps_for PassesOwn.never rfl (pi_range1 (by rfl) T.z_range (pa_cons (pv 1) pa_nil)) (pg_name (i := 7) sc_l_simple.nd rfl (Or.inl rfl)) (pss_cons (ps_set (i := 8) sc_l_simple.nd rfl (Or.inl rfl) (pe_op op_mod (pe_ix (ix_listK (K := K) rfl) (pv 5) (pe_op op_add pe_int (pv 7)) (fun _ _ => rfl)) (pv 1)))
      (pss_cons (ps_set (i := 9) sc_l_simple.nd rfl (Or.inl rfl) (pe_ix (ix_listK (K := K) rfl) (pv 6) (pv 7) (fun _ _ => rfl)))
      (pss_cons (ps_asg (pe_ix (ix_listK (K := K) rfl) (pv 6) (pv 8) (fun _ _ => rfl)) (pg_sub (pv 6) (pv 7) set_list))
      (pss_one (ps_asg (pv 9) (pg_sub (pv 6) (pv 8) set_list)))))))
      (pss_one (ps_expr (bmK (K := K) rfl (pe_bm PySem.F.plainAttrs_list PySem.F.slot_list_append PySem.F.type_list_append mt_append (pv 3) (pa_cons (pe_callTy (call_tupOfK (K := K) rfl) (by rfl) T.z_tuple (by decide +kernel) (pa_cons (pv 6) pa_nil)) pa_nil)))))))))))
      (pss_one (ps_ret (pv 3))))), ?_⟩
    walk_at "rd"
    refine ⟨Nat.zero_le _, fun pa hpa => ?_⟩
    walk_at "rd"
    refine r_rng1' (by omega) (by omega) ?_
    rw [Int.toNat_natCast]
    refine for_range (lo := 0) (n := m) (fun k σ G => ∃ ps y4 y5 y6 y7 y8 y9, σ = [some (.ref pn), some (iV n), some (iV m), some (.ref pa), y4, y5, y6, y7, y8, y9] ∧ Same H G ∧ G pa = some (.lst (refsV ps)) ∧ ps.length = k ∧ (∀ q ∈ ps, G q.1 = some (.tup (q.2.map iV)) ∧ q.2.length = n))
      ⟨[], none, none, none, none, none, none, rfl, same_new hpa, upd_same, rfl, fun q hq => nomatch hq⟩ (fun k σ G hk hP => ?_) (fun σ G hP => ?_)
    rotate_left
    · obtain ⟨ps, y4, y5, y6, y7, y8, y9, rfl, sG, hG, hl, hps⟩ := hP
      walk_at "rd"
      exact q G pa ps sG hpa hG hl hps
    obtain ⟨ps, y4, y5, y6, y7, y8, y9, rfl, sG, hG, hl, hps⟩ := hP
    walk_at "rd"
    refine r_slL (sG.seq hN) (fun l hl2 => ?_)
    rw [show (8 : Int) * (0 + (k : Int)) = ((8 * k : Nat) : Int) by omega, cut_drop, ← List.map_drop]
    have ld : (ns.drop (8 * k)).length = ns.length - 8 * k := List.length_drop
    have hD : SqL K (upd G l (.lst ((ns.drop (8 * k)).map V.int))) l ((ns.drop (8 * k)).map V.int) := SqL.of upd_same
    have hpl : pa ≠ l := ne_of_none hG hl2
    have s1 := same_new (o := .lst ((ns.drop (8 * k)).map V.int)) hl2
    have sG1 := sG.trans s1
    have hG1 := s1 _ _ hG
    have hps1 : ∀ q ∈ ps, (upd G l (.lst ((ns.drop (8 * k)).map V.int))) q.1 = some (.tup (q.2.map iV)) ∧ q.2.length = n := fun q hq => ⟨s1 _ _ (hps q hq).1, (hps q hq).2⟩
    clear hG hps sG
    generalize upd G l (.lst ((ns.drop (8 * k)).map V.int)) = G1 at *
    generalize ns.drop (8 * k) = ds at *
    have lds : 6 ≤ ds.length := by omega
    have fin : ∀ (σ : L2.St) (G2 : Hp) (t : Addr) (r : List Nat), (∃ y6 y7 y8 y9, σ = [some (.ref pn), some (iV n), some (iV m), some (.ref pa), some (.int (0 + (k : Int))), some (.ref l), y6, y7, y8, y9]) → Same G1 G2 → G2 t = some (.tup (r.map iV)) → r.length = n →
        ∃ ps' y4 y5 y6 y7 y8 y9, σ = [some (.ref pn), some (iV n), some (iV m), some (.ref pa), y4, y5, y6, y7, y8, y9] ∧ Same H (upd G2 pa (.lst (refsV ps ++ [V.ref t]))) ∧ (upd G2 pa (.lst (refsV ps ++ [V.ref t]))) pa = some (.lst (refsV ps')) ∧ ps'.length = k + 1 ∧ ∀ q ∈ ps', (upd G2 pa (.lst (refsV ps ++ [V.ref t]))) q.1 = some (.tup (q.2.map iV)) ∧ q.2.length = n := by
      rintro σ G2 t r ⟨y6, y7, y8, y9, rfl⟩ s2 ht hr
      have tup : ∀ (c : Addr) (ys : List V), G2 c = some (.tup ys) → (upd G2 pa (.lst (refsV ps ++ [V.ref t]))) c = some (.tup ys) := fun c ys hc => by
        rw [upd_ne (fun e => by rw [e, s2 _ _ hG1] at hc; exact nomatch hc)]
        exact hc
      refine ⟨ps ++ [(t, r)], _, _, _, _, _, _, rfl, same_mut (sG1.trans s2) hpa, ?_, by rw [List.length_append, hl]; rfl, fun q hq => ?_⟩
      · rw [upd_same]
        unfold refsV
        rw [List.map_append]
        rfl
      rcases List.mem_append.mp hq with hq | hq
      · exact ⟨tup _ _ (s2 _ _ (hps1 q hq).1), (hps1 q hq).2⟩
      · rw [List.mem_singleton.mp hq]
        exact ⟨tup _ _ ht, hr⟩
    walk_at "rd"
    refine r_ixL hD (at_int (by decide) (by omega)) ?_
    walk_at "rd"
    refine r_iteD (fun _ => ?_) (fun _ => ?_)
    · walk_at "rd"
      refine ⟨ty_l (SqL.of hG1), ?_⟩
      walk_at "rd"
      refine r_ixL hD (at_int (by decide) (by omega)) ?_
      walk_at "rd"
      refine r_mod (j := (n : Int)) hn0 ?_
      have g := emod_rng (ds.getD (1 : Int).toNat 0) hn0
      obtain ⟨z, ez, hz⟩ := nat_of g.1 g.2
      rw [ez]
      walk_at "rd"
      refine ⟨ln1, fun p1 hp1 => ?_⟩
      walk_at "rd"
      refine ⟨p1, (n : Int), _, rfl, rfl, upd_same, by omega, by omega, ?_, fun p2 hp2 => ?_⟩
      · show 1 * (n : Int).toNat ≤ sizeLine
        omega
      have er : (List.replicate n ((z : Nat) : Int)).map V.int = (List.replicate n z).map iV := by
        rw [List.map_replicate, List.map_replicate]
        rfl
      rw [Int.toNat_natCast, rep_flat, er]
      walk_at "rd"
      refine r_tupL (SqL.of upd_same) (fun t ht => ?_)
      have s2 := (same_new (o := .lst [V.int ((z : Nat) : Int)]) hp1).trans ((same_new (o := .lst ((List.replicate n z).map iV)) hp2).trans (same_new (o := .tup ((List.replicate n z).map iV)) ht))
      walk_at "rd"
      refine r_append (s2 _ _ hG1) (by show (ps.map _).length < _; rw [List.length_map]; omega) ?_
      exact fin _ _ t (List.replicate n z) ⟨_, _, _, _, rfl⟩ s2 upd_same List.length_replicate
    · walk_at "rd"
      refine r_lstRg1 (j := (n : Int)) (by omega) (by omega) (fun pb hpb => ?_) ⟨_, rfl, rfl, rfl⟩ (fun R R' h1 h2 => ?_)
      rotate_left
      · obtain ⟨v, e, h3⟩ := h2
        exact ⟨v, e, h1 _ _ h3⟩
      rw [Int.toNat_natCast, ← ints_nat]
      walk_at "rd"
      refine r_rng1' (by omega) (by omega) ?_
      rw [Int.toNat_natCast]
      have hpab : pa ≠ pb := ne_of_none hG1 hpb
      refine for_range (lo := 0) (n := n) (fun i σ G => ∃ y7 y8 y9 r, σ = [some (.ref pn), some (iV n), some (iV m), some (.ref pa), some (.int (0 + (k : Int))), some (.ref l), some (.ref pb), y7, y8, y9] ∧ Same G1 G ∧ G pb = some (.lst ((r : List Nat).map iV)) ∧ r.length = n)
        ⟨_, _, _, List.range n, rfl, same_new hpb, upd_same, List.length_range⟩ (fun i σ G hi hP => ?_) (fun σ G hP => ?_)
      · obtain ⟨y7, y8, y9, r, rfl, sG2, hG2, hr⟩ := hP
        rw [show (0 : Int) + (i : Int) = (i : Int) by omega]
        walk_at "rd"
        refine r_ixL (sG2.seq hD) (at_int (by omega) (by omega)) ?_
        walk_at "rd"
        refine r_mod (j := (n : Int)) hn0 ?_
        have g := emod_rng (ds.getD (1 + (i : Int)).toNat 0) hn0
        obtain ⟨j, ej, hj⟩ := nat_of g.1 g.2
        rw [ej]
        walk_at "rd"
        refine r_ixL (SqL.of hG2) (at_row (by omega)) ?_
        walk_at "rd"
        refine r_ixL (SqL.of hG2) (at_row (by omega)) ?_
        walk_at "rd"
        refine r_setL hG2 (by omega) (by rw [List.length_map]; omega) ?_
        walk_at "rd"
        refine r_setL upd_same (by omega) (by rw [List.length_set, List.length_map]; omega) ?_
        rw [upd_upd, Int.toNat_natCast, Int.toNat_natCast, ← List.map_set, ← List.map_set]
        exact ⟨_, _, _, _, rfl, same_mut sG2 hpb, upd_same, by rw [List.length_set, List.length_set]; exact hr⟩
      · obtain ⟨y7, y8, y9, r, rfl, sG2, hG2, hr⟩ := hP
        walk_at "rd"
        refine ⟨ty_l (SqL.of (sG2 _ _ hG1)), ?_⟩
        walk_at "rd"
        refine r_tupL (SqL.of hG2) (fun t ht => ?_)
        have s2 := sG2.trans (same_new (o := .tup (r.map iV)) ht)
        walk_at "rd"
        refine r_append (s2 _ _ hG1) (by show (ps.map _).length < _; rw [List.length_map]; omega) ?_
        exact fin _ _ t r ⟨_, _, _, _, rfl⟩ s2 upd_same hr
end

section
variable {P : Program} {w : World} {K : PySem.W.Frag} {mg : Str → Option Value} {base : Heap} {a : Ad}
def sp_law (K : PySem.W.Frag) : Sp := fun vs H Q _ => ∃ (a : Addr) (ns : List Int), vs = [.ref a] ∧ SqL K H a (ns.map V.int) ∧ ns.length ≤ 63 ∧ ∀ H', Q (.bl true) H'
theorem ok_law (T : Txt K mg a) : FnOk P w K mg base CX0 5 a.f_law a.d_law ["script"] (sp_law K) := by
  have G_l_cell := ok_l_cell (P := P) (w := w) (base := base) T
  have G_l_numbers := ok_l_numbers (P := P) (w := w) (base := base) T
  have G_l_same := ok_l_same (P := P) (w := w) (base := base) T
  have G_l_simple := ok_l_simple (P := P) (w := w) (base := base) T
  have G_piece_machine := ok_piece_machine (P := P) (w := w) (base := base) T
  refine T.F_law.ok sc_law (fun vs H Q E h => ?_) (fun cdv A outer s H vs Q E hr h => ?_)
  · obtain ⟨l, ns, rfl, _⟩ := h
    rfl
  · obtain ⟨l, sc, rfl, hS, _, q⟩ := h
    have zl : (sizeLine : Nat) = 16777216 := by decide
    refine ⟨_, (pss_cons (ps_set (i := 1) sc_law.nd rfl (Or.inl rfl) (pe_call (G_l_numbers) (hr.mono (by first | decide | omega)) (by rfl) T.g_l_numbers T.F_l_numbers.kp T.b_l_numbers .nil pass0 (pa_cons (pe_call (G_l_cell) (hr.mono (by first | decide | omega)) (by rfl) T.g_l_cell T.F_l_cell.kp T.b_l_cell .nil pass0 (pa_cons (pv 0) (pa_cons pe_int pa_nil))) (pa_cons pe_int pa_nil))))
      (pss_cons (ps_set (i := 2) sc_law.nd rfl (Or.inl rfl) (pe_op op_add pe_int (pe_op op_mod (pe_ix (ix_listK (K := K) rfl) (pv 1) pe_int (fun _ _ => rfl)) pe_int)))
      (pss_cons (ps_set (i := 3) sc_law.nd rfl (Or.inr rfl) (pe_call (G_l_simple) (hr.mono (by first | decide | omega)) (by rfl) T.g_l_simple T.F_l_simple.kp T.b_l_simple .nil pass0 (pa_cons (pe_slice (sl_listK (K := K) rfl) (pv 1) (po_some pe_int) po_none) (pa_cons (pv 2) (pa_cons (pe_op op_add pe_int (pe_op op_mod (pe_ix (ix_listK (K := K) rfl) (pv 1) pe_int (fun _ _ => rfl)) pe_int)) pa_nil)))))
      (pss_cons (ps_set (i := 4) sc_law.nd rfl (Or.inl rfl) (pe_callTy (call_lstOfK (K := K) rfl) (by rfl) T.z_list (by decide +kernel) (pa_cons (pv 3) pa_nil)))
      (pss_cons (ps_set (i := 5) sc_law.nd rfl (Or.inl rfl) (pe_tup (pa_cons (pe_callTy (call_tupOfK (K := K) rfl) (by rfl) T.z_tuple (by decide +kernel) (pa_cons (pe_lc (own := [("place", 6)]) (g := gName 6) (tt := tYes) rfl sc_law.nd (pi_range1 (by rfl) T.z_range (pa_cons (pv 2) pa_nil)) (blkOk_by (N := N_law) (sc := (defScope s_law)) (by decide +kernel)) (fun _ _ _ _ _ => pg_name (i := 6) sc_law.nd rfl (by first | exact Or.inl rfl | exact Or.inr rfl)) (fun _ _ _ _ _ => pts_nil) (fun _ _ _ _ _ => (pe_callTy (call_tupOfK (K := K) rfl) (by rfl) T.z_tuple (by decide +kernel) (pa_cons (pe_lc (own := [("act", 7)]) (g := gName 7) (tt := tYes) rfl sc_law.nd (pi_listK (K := K) rfl (pv 3)) (blkOk_by (N := N_law) (sc := (relS (eScope (eArg 0 (eVal 0 (sE (sIn 4 s_law))))) (defScope s_law))) (by decide +kernel)) (fun _ _ _ _ _ => pg_name (i := 7) sc_law.nd rfl (by first | exact Or.inl rfl | exact Or.inr rfl)) (fun _ _ _ _ _ => pts_nil) (fun _ _ _ _ _ => (pe_ix (ix_tupK (K := K) rfl) (pv 7) (pv 6) (fun _ _ => rfl)))) pa_nil)))) pa_nil)) (pa_cons pe_int (pa_cons (pe_tup pa_nil) pa_nil)))))
      (pss_one (ps_ret (pe_and (pe_call (G_l_same) (hr.mono (by first | decide | omega)) (by rfl) T.g_l_same T.F_l_same.kp T.b_l_same .nil pass0 (pa_cons (pe_call (G_piece_machine) (hr.mono (by first | decide | omega)) (by rfl) T.g_piece_machine T.F_piece_machine.kp T.b_piece_machine .nil pass0 (pa_cons (pv 4) pa_nil)) (pa_cons (pv 5) pa_nil))) (pe_one (pe_cmpR (op_eqDK (K := K) rfl hr.units) (pv 4) (pv 3) (nomark _))))))))))), ?_⟩
    walk_at "rd"
    refine ⟨l, sc, 0, rfl, hS, by decide, ?_⟩
    walk_at "rd"
    refine ⟨_, 36, rfl, by omega, fun H1 pn ns s1 hpn hN hlen hz => ?_⟩
    walk_at "rd"
    refine r_ixL (SqL.of hN) (at_int (by decide) (by omega)) ?_
    walk_at "rd"
    obtain ⟨n, en, n1, n5⟩ : ∃ n : Nat, 1 + ns.getD (0 : Int).toNat 0 % 5 = (n : Int) ∧ 1 ≤ n ∧ n ≤ 5 := by
      have := emod_rng (ns.getD (0 : Int).toNat 0) (b := 5) (by decide)
      exact ⟨(1 + ns.getD (0 : Int).toNat 0 % 5).toNat, by omega, by omega, by omega⟩
    rw [en]
    refine r_slL (SqL.of hN) (fun l2 hl2 => ?_)
    walk_at "rd"
    refine r_ixL (SqL.of ((same_new hl2) _ _ hN)) (at_int (by decide) (by omega)) ?_
    walk_at "rd"
    obtain ⟨m, em, m1, m4⟩ : ∃ m : Nat, 1 + ns.getD (1 : Int).toNat 0 % 4 = (m : Int) ∧ 1 ≤ m ∧ m ≤ 4 := by
      have := emod_rng (ns.getD (1 : Int).toNat 0) (b := 4) (by decide)
      exact ⟨(1 + ns.getD (1 : Int).toNat 0 % 4).toNat, by omega, by omega, by omega⟩
    rw [em]
    have e2 : (2 : Int) = ((2 : Nat) : Int) := rfl
    rw [e2, cut_drop, ← List.map_drop]
    refine ⟨l2, ns.drop 2, n, m, rfl, SqL.of upd_same, by rw [List.length_drop]; omega, by rw [List.length_drop]; omega, n1, n5, m4, fun H2 pa ps s2 hpa hA hpl hps => ?_⟩
    walk_at "rd"
    refine r_lstL (SqL.of hA) (fun ph hph => ?_)
    have s3 := same_new (o := .lst (refsV ps)) hph
    have hA3 := s3 _ _ hA
    have hH3 : (upd H2 ph (.lst (refsV ps))) ph = some (.lst (refsV ps)) := upd_same
    have hps3 : ∀ q ∈ ps, (upd H2 ph (.lst (refsV ps))) q.1 = some (.tup (q.2.map iV)) ∧ q.2.length = n := fun q hq => ⟨s3 _ _ (hps q hq).1, (hps q hq).2⟩
    have lr : (refsV ps).length = ps.length := List.length_map _
    clear hA hps hph
    generalize upd H2 ph (.lst (refsV ps)) = H3 at *
    walk_at "rd"
    refine r_rng1' (by omega) (by omega) ?_
    rw [Int.toNat_natCast]
    intro D hD
    refine lc_range (lo := 0) (n := n) (fun i G => Same H3 G ∧ ∃ vs : List V, G D = some (.lst vs) ∧ DtAll K G vs (((List.range i).map (colN ps)).map rowD)) ⟨same_new hD, [], upd_same, .nil⟩ (fun i G hi hP => ?_) (fun G hP => ?_)
    · obtain ⟨sG, vs, hG, hdt⟩ := hP
      refine ⟨rfl, r_yes (iteT ?_)⟩
      walk_at "rd"
      refine ⟨⟨_, SqL.of (sG _ _ hA3)⟩, fun D3 hD3 => ?_⟩
      refine lc_list (xs := refsV ps) (fun j G3 => Same G G3 ∧ G3 D3 = some (.lst ((colN (ps.take j) i).map iV))) ⟨same_new hD3, upd_same⟩ (fun j G3 _ hP => ?_) (fun j x G3 hx hP => ?_) (fun G3 hP => ?_)
      · exact SqL.of (hP.1 _ _ (sG _ _ hA3))
      · obtain ⟨sG3, hG3⟩ := hP
        obtain ⟨q1, hq1, rfl⟩ : ∃ q1, ps[j]? = some q1 ∧ V.ref q1.1 = x := by
          unfold refsV at hx
          rw [List.getElem?_map] at hx
          exact Option.map_eq_some_iff.mp hx
        obtain ⟨t1, l1⟩ := hps3 q1 (List.mem_of_getElem? hq1)
        have hj := (List.getElem?_eq_some_iff.mp hq1).1
        refine ⟨rfl, r_yes (iteT ?_)⟩
        walk_at "rd"
        rw [Int.zero_add]
        refine r_ixT (SqT.of (sG3 _ _ (sG _ _ t1))) (at_row (by omega)) ?_
        refine ⟨_, hG3, by rw [List.length_map]; unfold colN; rw [List.length_map, List.length_take]; omega, same_mut sG3 hD3, ?_⟩
        rw [upd_same, List.take_add_one, hq1]
        unfold colN
        rw [List.map_append, List.map_append]
        rfl
      · obtain ⟨sG3, hG3⟩ := hP
        rw [lr, List.take_length] at hG3
        walk_at "rd"
        refine r_tupL (SqL.of hG3) (fun t ht => ?_)
        have s4 : Same G (upd G3 t (.tup ((colN ps i).map iV))) := sG3.trans (same_new ht)
        refine ⟨vs, s4 _ _ hG, ?_, same_mut (sG.trans s4) hD, vs ++ [.ref t], upd_same, ?_⟩
        · have := hdt.len
          rw [List.length_map, List.length_map, List.length_range] at this
          omega
        · rw [List.range_succ, List.map_append, List.map_append]
          have sT : SameT (upd G3 t (.tup ((colN ps i).map iV))) (upd (upd G3 t (.tup ((colN ps i).map iV))) D (.lst (vs ++ [.ref t]))) := SameT.lst (s4 _ _ hG)
          exact (hdt.k ((sT_of s4).trans sT)).snoc (.tup (sT.sq (SqT.of upd_same)) (ofNats _))
    · obtain ⟨sG, vs, hG, hdt⟩ := hP
      walk_at "rd"
      refine r_tupL (SqL.of hG) (fun ts hts => ?_)
      walk_at "rd"
      refine ⟨Nat.zero_le _, fun te hte => ?_⟩
      walk_at "rd"
      refine ⟨ln3, fun t ht => ?_⟩
      have s1 : Same G (upd (upd (upd G ts (.tup vs)) te (.tup [])) t (.tup [V.ref ts, V.int 0, V.ref te])) := (same_new hts).trans ((same_new hte).trans (same_new ht))
      have hts2 := (same_new (o := .tup [V.ref ts, V.int 0, V.ref te]) ht) _ _ ((same_new (o := .tup []) hte) _ _ (upd_same (H := G) (a := ts) (o := .tup vs)))
      have hte2 := (same_new (o := .tup [V.ref ts, V.int 0, V.ref te]) ht) _ _ (upd_same (H := upd G ts (.tup vs)) (a := te) (o := .tup []))
      have hD1 : Dt K (upd (upd (upd G ts (.tup vs)) te (.tup [])) t (.tup [V.ref ts, V.int 0, V.ref te])) (.ref t) (macD (pieceM ps n)) := .tup (SqT.of upd_same) (.cons (.tup (SqT.of hts2) (hdt.k (sT_of s1))) (.cons (.int 0) (.cons (.tup (SqT.of hte2) .nil) .nil)))
      have sA := sG.trans s1
      generalize upd (upd (upd G ts (.tup vs)) te (.tup [])) t (.tup [V.ref ts, V.int 0, V.ref te]) = G4 at *
      walk_at "rd"
      refine ⟨ph, ps, n, rfl, SqL.of (sA _ _ hH3), fun p hp => ⟨SqT.of (sA _ _ (hps3 p hp).1), (hps3 p hp).2⟩, by omega, by omega, n5, fun G5 v s5 hv => ?_⟩
      walk_at "rd"
      have fit : fits 4 (macD (pieceM ps n)) := by
        have fr : ∀ d ∈ ((List.range n).map (colN ps)).map rowD, fits 2 d := fun d hd => by
          obtain ⟨r, hr, rfl⟩ := List.mem_map.mp hd
          obtain ⟨i, hi, rfl⟩ := List.mem_map.mp hr
          refine fits_row 0 ?_
          unfold colN
          rw [List.length_map]
          omega
        refine ⟨by show 3 ≤ _; omega, fun d hd => ?_⟩
        rcases List.mem_cons.mp hd with rfl | hd
        · refine ⟨?_, fr⟩
          show (((List.range n).map (colN ps)).map rowD).length ≤ _
          rw [List.length_map, List.length_map, List.length_range]
          omega
        rcases List.mem_cons.mp hd with rfl | hd
        · trivial
        · rw [List.mem_singleton.mp hd]
          exact ⟨Nat.zero_le _, fun d hd => nomatch hd⟩
      refine ⟨v, .ref t, _, rfl, hv.dp, (hD1.k (sT_of s5)).dp, fit, ?_⟩
      refine ⟨_, rfl, iteT ?_⟩
      have sB := sA.trans s5
      walk_at "rd"
      refine r_eqD (dp_rows (ps := ps) (SqL.of (sB _ _ hH3)) fun p hp => SqT.of (sB _ _ (hps3 p hp).1)) (dp_rows (ps := ps) (SqL.of (sB _ _ hA3)) fun p hp => SqT.of (sB _ _ (hps3 p hp).1)) (shaped_rows _) (shaped_rows _) ?_
      rw [eqv_lrows, show decide (ps.map (·.2) = ps.map (·.2)) = true by simp]
      exact q _
end

theorem all_mk {l : PySem.W.OpenLaw} {w : World} {K : PySem.W.Frag} {h : Heap} {mg : Str → Option Value} {fa : Addr} (X : K.In h) (G : h.Ns mainGlobals mg) (hfa : mg "law" = some (.ref fa))
    {f0 : Addr} {od0 an0 : Option Addr} {sl0 : Array (Option Value)} {oc0 kV0 dc0 pm0 cd0 ct0 : Value}
    (a0 : PySem.W.nsIn K mainGlobals "piece_machine" = some (some (.ref f0))) (l0 : K.lookup f0 = some ⟨oc0, od0, .func (PySem.W.fnOf "piece_machine" "piece_machine" (defArgs s_piece_machine) (defBody s_piece_machine) (defScope s_piece_machine) .none kV0 dc0 pm0 an0 cd0 ct0), sl0⟩) (c0 : PySem.W.codeIn K cd0 "piece_machine" = true) (k0 : PySem.W.keepIn K (.ref f0) = true)
    {f1 : Addr} {od1 an1 : Option Addr} {sl1 : Array (Option Value)} {oc1 kV1 dc1 pm1 cd1 ct1 : Value}
    (a1 : PySem.W.nsIn K mainGlobals "_law_cell" = some (some (.ref f1))) (l1 : K.lookup f1 = some ⟨oc1, od1, .func (PySem.W.fnOf "_law_cell" "_law_cell" (defArgs s_l_cell) (defBody s_l_cell) (defScope s_l_cell) .none kV1 dc1 pm1 an1 cd1 ct1), sl1⟩) (c1 : PySem.W.codeIn K cd1 "_law_cell" = true) (k1 : PySem.W.keepIn K (.ref f1) = true)
    {f2 : Addr} {od2 an2 : Option Addr} {sl2 : Array (Option Value)} {oc2 kV2 dc2 pm2 cd2 ct2 : Value}
    (a2 : PySem.W.nsIn K mainGlobals "_law_numbers" = some (some (.ref f2))) (l2 : K.lookup f2 = some ⟨oc2, od2, .func (PySem.W.fnOf "_law_numbers" "_law_numbers" (defArgs s_l_numbers) (defBody s_l_numbers) (defScope s_l_numbers) .none kV2 dc2 pm2 an2 cd2 ct2), sl2⟩) (c2 : PySem.W.codeIn K cd2 "_law_numbers" = true) (k2 : PySem.W.keepIn K (.ref f2) = true)
    {f3 : Addr} {od3 an3 : Option Addr} {sl3 : Array (Option Value)} {oc3 kV3 dc3 pm3 cd3 ct3 : Value}
    (a3 : PySem.W.nsIn K mainGlobals "_law_same" = some (some (.ref f3))) (l3 : K.lookup f3 = some ⟨oc3, od3, .func (PySem.W.fnOf "_law_same" "_law_same" (defArgs s_l_same) (defBody s_l_same) (defScope s_l_same) .none kV3 dc3 pm3 an3 cd3 ct3), sl3⟩) (c3 : PySem.W.codeIn K cd3 "_law_same" = true) (k3 : PySem.W.keepIn K (.ref f3) = true)
    {f4 : Addr} {od4 an4 : Option Addr} {sl4 : Array (Option Value)} {oc4 kV4 dc4 pm4 cd4 ct4 : Value}
    (a4 : PySem.W.nsIn K mainGlobals "_law_simple" = some (some (.ref f4))) (l4 : K.lookup f4 = some ⟨oc4, od4, .func (PySem.W.fnOf "_law_simple" "_law_simple" (defArgs s_l_simple) (defBody s_l_simple) (defScope s_l_simple) .none kV4 dc4 pm4 an4 cd4 ct4), sl4⟩) (c4 : PySem.W.codeIn K cd4 "_law_simple" = true) (k4 : PySem.W.keepIn K (.ref f4) = true)
    {f5 : Addr} {od5 an5 : Option Addr} {sl5 : Array (Option Value)} {oc5 kV5 dc5 pm5 cd5 ct5 : Value}
    (a5 : PySem.W.nsIn K mainGlobals "law" = some (some (.ref f5))) (l5 : K.lookup f5 = some ⟨oc5, od5, .func (PySem.W.fnOf "law" "law" (defArgs s_law) (defBody s_law) (defScope s_law) .none kV5 dc5 pm5 an5 cd5 ct5), sl5⟩) (c5 : PySem.W.codeIn K cd5 "law" = true) (k5 : PySem.W.keepIn K (.ref f5) = true)
    (z_bool : PySem.W.nsIn K mainGlobals "bool" = some none)
    (z_int : PySem.W.nsIn K mainGlobals "int" = some none)
    (z_isinstance : PySem.W.nsIn K mainGlobals "isinstance" = some none)
    (z_len : PySem.W.nsIn K mainGlobals "len" = some none)
    (z_list : PySem.W.nsIn K mainGlobals "list" = some none)
    (z_range : PySem.W.nsIn K mainGlobals "range" = some none)
    (z_str : PySem.W.nsIn K mainGlobals "str" = some none)
    (z_tuple : PySem.W.nsIn K mainGlobals "tuple" = some none)
    : ∃ fd : FuncData, (∀ (s : Shared) (v : Value), BindsTo s fd ⟨[v], []⟩ [("script", v)]) ∧ ∀ base : Heap, K.In base → base.Ns mainGlobals mg → FnOk l.prog w K mg base CX0 5 fa fd ["script"] (sp_law K) := by
  have e := hfa.symm.trans (PySem.W.mg_of X G a5)
  cases e
  have F0 := fun_mk (st := s_piece_machine) l0 c0 k0
  have b0 := F0.binds (ps := ["acts"]) fun _ _ _ _ _ _ us hl => match us, hl with | [_], _ => rfl
  have F1 := fun_mk (st := s_l_cell) l1 c1 k1
  have b1 := F1.binds (ps := ["script", "k"]) fun _ _ _ _ _ _ us hl => match us, hl with | [_, _], _ => rfl
  have F2 := fun_mk (st := s_l_numbers) l2 c2 k2
  have b2 := F2.binds (ps := ["cell", "count"]) fun _ _ _ _ _ _ us hl => match us, hl with | [_, _], _ => rfl
  have F3 := fun_mk (st := s_l_same) l3 c3 k3
  have b3 := F3.binds (ps := ["actual", "due"]) fun _ _ _ _ _ _ us hl => match us, hl with | [_, _], _ => rfl
  have F4 := fun_mk (st := s_l_simple) l4 c4 k4
  have b4 := F4.binds (ps := ["numbers", "places", "letters"]) fun _ _ _ _ _ _ us hl => match us, hl with | [_, _, _], _ => rfl
  have F5 := fun_mk (st := s_law) l5 c5 k5
  have b5 := F5.binds (ps := ["script"]) fun _ _ _ _ _ _ us hl => match us, hl with | [_], _ => rfl
  have T : Txt K mg ⟨f0, PySem.W.fnOf "piece_machine" "piece_machine" (defArgs s_piece_machine) (defBody s_piece_machine) (defScope s_piece_machine) .none kV0 dc0 pm0 an0 cd0 ct0, f1, PySem.W.fnOf "_law_cell" "_law_cell" (defArgs s_l_cell) (defBody s_l_cell) (defScope s_l_cell) .none kV1 dc1 pm1 an1 cd1 ct1, f2, PySem.W.fnOf "_law_numbers" "_law_numbers" (defArgs s_l_numbers) (defBody s_l_numbers) (defScope s_l_numbers) .none kV2 dc2 pm2 an2 cd2 ct2, f3, PySem.W.fnOf "_law_same" "_law_same" (defArgs s_l_same) (defBody s_l_same) (defScope s_l_same) .none kV3 dc3 pm3 an3 cd3 ct3, f4, PySem.W.fnOf "_law_simple" "_law_simple" (defArgs s_l_simple) (defBody s_l_simple) (defScope s_l_simple) .none kV4 dc4 pm4 an4 cd4 ct4, fa, PySem.W.fnOf "law" "law" (defArgs s_law) (defBody s_law) (defScope s_law) .none kV5 dc5 pm5 an5 cd5 ct5⟩ := ⟨F0, b0, PySem.W.mg_of X G a0, F1, b1, PySem.W.mg_of X G a1, F2, b2, PySem.W.mg_of X G a2, F3, b3, PySem.W.mg_of X G a3, F4, b4, PySem.W.mg_of X G a4, F5, b5, PySem.W.mg_of X G a5, PySem.W.mg_none_of X G z_bool, PySem.W.mg_none_of X G z_int, PySem.W.mg_none_of X G z_isinstance, PySem.W.mg_none_of X G z_len, PySem.W.mg_none_of X G z_list, PySem.W.mg_none_of X G z_range, PySem.W.mg_none_of X G z_str, PySem.W.mg_none_of X G z_tuple⟩
  exact ⟨_, fun s v => .of_eq rfl, fun base _ _ => ok_law T⟩
end L40
open PySem PySem.W PyProof.Rows
set_option maxHeartbeats 0 in
theorem PySem.Challenge.cw_turnsandthrows_k40_piece_machine_holds : PySem.Challenge.rw_turnsandthrows_k40_piece_machine.Holds := by
  w_on; o_law; k_head; (case hw => w_witness2)
  k_fill
  refine L2.walk_of (l := PySem.Challenge.rw_turnsandthrows_k40_piece_machine) (n := 63) (k := 5) (x := "script") (CX := fun _ => L2.CX0) (sp := fun w => L40.sp_law _) rfl (by decide) rfl ⟨rfl, by decide, by decide⟩ (fun w h Y => PySem.W.kIn_of Y) ?F (fun _ _ a ns hl _ hS => ⟨a, ns, rfl, hS, hl, fun _ => rfl⟩) (fun _ _ _ _ _ h => h)
  case F =>
    intro w mg fa h KX G hmg
    refine' L40.all_mk KX G hmg ?a0 ?l0 ?c0 ?k0 ?a1 ?l1 ?c1 ?k1 ?a2 ?l2 ?c2 ?k2 ?a3 ?l3 ?c3 ?k3 ?a4 ?l4 ?c4 ?k4 ?a5 ?l5 ?c5 ?k5 ?z_bool ?z_int ?z_isinstance ?z_len ?z_list ?z_range ?z_str ?z_tuple
    (case a0 => k_is); (case l0 => k_is); (case c0 => k_is); (case k0 => k_is); (case a1 => k_is); (case l1 => k_is); (case c1 => k_is); (case k1 => k_is); (case a2 => k_is); (case l2 => k_is); (case c2 => k_is); (case k2 => k_is); (case a3 => k_is); (case l3 => k_is); (case c3 => k_is); (case k3 => k_is); (case a4 => k_is); (case l4 => k_is); (case c4 => k_is); (case k4 => k_is); (case a5 => k_is); (case l5 => k_is); (case c5 => k_is); (case k5 => k_is); (case z_bool => k_is); (case z_int => k_is); (case z_isinstance => k_is); (case z_len => k_is); (case z_list => k_is); (case z_range => k_is); (case z_str => k_is); (case z_tuple => k_is)

