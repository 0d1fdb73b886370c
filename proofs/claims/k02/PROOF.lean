import PyProof.Rows.All
import Wide.All
import OpenK.AllK
import Wide.FinOn
import HandS.ForMost
import HandS.IsInst
import PySem.Challenge.RW_turnsandthrows_k02_words_upto
set_option Elab.async false
set_option linter.all false
set_option maxRecDepth 100000
set_option maxHeartbeats 8000000
set_option Elab.async false
set_option linter.all false
set_option maxRecDepth 100000
namespace G
open PySem PySem.Spec PyProof.Rows L2

/-! ### readings, step by step -/
section
variable {σ : L2.St} {H : Hp} {Q : VK} {QB : Bool → Hp → Prop} {QA : List V → Hp → Prop} {D : Ends} {K : PySem.W.Frag} {te ta tb : TE} {t u : TS} {c c2 : TT} {i : Nat} {v x y : V}
theorem r_seq (h : t { D with nx := u D } σ H) : tSeq t u D σ H := h
theorem r_set (h : te σ H fun x H1 => D.nx (σ.set i (some x)) H1) : tAsg te (gName i) D σ H := h
theorem r_asg {g : TG} (h : te σ H fun x H1 => g x σ H1 D.nx) : tAsg te g D σ H := h
theorem r_drop (h : te σ H fun _ H1 => D.nx σ H1) : tDrop te D σ H := h
theorem r_ret (h : te σ H D.rt) : tRet te D σ H := h
theorem r_retN (h : D.rt .non H) : tRetN D σ H := h
theorem r_next (h : D.nx σ H) : tNext D σ H := h
theorem r_break (h : D.bk σ H) : tBreak D σ H := h
theorem r_cont (h : D.ct σ H) : tCont D σ H := h
theorem r_yes (h : QB true H) : tYes σ H QB := h
theorem r_if (h : c σ H fun b H1 => if b = true then t D σ H1 else u D σ H1) : tIfS c t u D σ H := h
theorem r_ifx (h : c σ H fun d H1 => if d = true then ta σ H1 Q else tb σ H1 Q) : tIf c ta tb σ H Q := h
theorem r_var (h : σ[i]? = some (some v)) (q : Q v H) : tVar i σ H Q := ⟨v, h, q⟩
theorem r_c (q : Q v H) : tC v σ H Q := q
theorem r_op {r : R2} (h : ta σ H fun x H1 => tb σ H1 fun y H2 => r x y H2 Q) : tOp r ta tb σ H Q := h
theorem r_un {r : V → Hp → VK → Prop} (h : ta σ H fun x H1 => r x H1 Q) : tUn r ta σ H Q := h
theorem r_cb {r : List V → Hp → VK → Prop} {t : TA} (h : t σ H fun vs H1 => r vs H1 Q) : tCB r t σ H Q := h
theorem r_cons {tr : TA} (h : te σ H fun x H1 => tr σ H1 fun xs H2 => QA (x :: xs) H2) : tCons te tr σ H QA := h
theorem r_nil (h : QA [] H) : tNil σ H QA := h
theorem r_call {sp : Sp} {dvs : List V} {E : XK} {t : TA} (h : t σ H fun vs H1 => sp (vs ++ dvs) H1 Q E) : tCall sp dvs E t σ H Q := h
theorem r_test (h : te σ H fun x H' => ∃ k, x = .bl k ∧ QB k H') : tTest te σ H QB := h
theorem r_tb (h : te σ H fun x H' => ∃ k, x = .bl k ∧ QB k H') : tB te σ H QB := h
theorem r_bl {b : Bool} {C : Bool → Prop} (h : C b) : ∃ k, V.bl b = .bl k ∧ C k := ⟨b, rfl, h⟩
theorem r_and (h : c σ H fun b H1 => if b = true then c2 σ H1 QB else QB false H1) : tAnd c c2 σ H QB := h
theorem r_or (h : c σ H fun b H1 => if b = true then QB true H1 else c2 σ H1 QB) : tOr c c2 σ H QB := h
theorem r_not (h : c σ H fun b H1 => QB (!b) H1) : tNot c σ H QB := h
theorem r_andV (h : ta σ H fun x H1 => ∃ c, x = .bl c ∧ if c = true then tb σ H1 Q else Q (.bl false) H1) : tAndV ta tb σ H Q := h
theorem r_orV (h : ta σ H fun x H1 => ∃ c, x = .bl c ∧ if c = true then Q (.bl true) H1 else tb σ H1 Q) : tOrV ta tb σ H Q := h
theorem r_notV (h : ta σ H fun x H1 => ∃ c, x = .bl c ∧ Q (.bl (!c)) H1) : tNotV ta σ H Q := h
theorem r_tup {t : TA} (h : t σ H fun xs H1 => xs.length ≤ sizeLine ∧ ∀ p, H1 p = none → Q (.ref p) (upd H1 p (.tup xs))) : tTup t σ H Q := h
theorem r_lst {t : TA} (h : t σ H fun xs H1 => xs.length ≤ sizeLine ∧ ∀ p, H1 p = none → Q (.ref p) (upd H1 p (.lst xs))) : tLst t σ H Q := h
theorem r_I0 {g : Int → Int → V} {i j : Int} (h : Q (g i j) H) : rI0 g (.int i) (.int j) H Q := ⟨i, j, rfl, rfl, h⟩
theorem r_I {C : Int → Int → Prop} {g : Int → Int → V} {i j : Int} (hc : C i j) (h : Q (g i j) H) : rI C g (.int i) (.int j) H Q := ⟨i, j, rfl, rfl, hc, h⟩
theorem r_U {g : Int → V} {i : Int} (h : Q (g i) H) : rU g (.int i) H Q := ⟨i, rfl, h⟩
theorem r_eqI {i j : Int} (h : Q (.bl (decide (i = j))) H) : rEq (.int i) (.int j) H Q := by
  refine ⟨rfl, ?_⟩
  have e : decide (V.int i = V.int j) = decide (i = j) := by simp
  rw [e]; exact h
theorem r_neI {i j : Int} (h : Q (.bl (!decide (i = j))) H) : rNe (.int i) (.int j) H Q := by
  refine ⟨rfl, ?_⟩
  have e : decide (V.int i = V.int j) = decide (i = j) := by simp
  rw [e]; exact h
theorem r_eqS {i j : Str} (h : Q (.bl (decide (i = j))) H) : rEq (.str i) (.str j) H Q := by
  refine ⟨rfl, ?_⟩
  have e : decide (V.str i = V.str j) = decide (i = j) := by simp
  rw [e]; exact h
theorem r_neS {i j : Str} (h : Q (.bl (!decide (i = j))) H) : rNe (.str i) (.str j) H Q := by
  refine ⟨rfl, ?_⟩
  have e : decide (V.str i = V.str j) = decide (i = j) := by simp
  rw [e]; exact h
theorem r_eqB {i j : Bool} (h : Q (.bl (decide (i = j))) H) : rEq (.bl i) (.bl j) H Q := by
  refine ⟨rfl, ?_⟩
  have e : decide (V.bl i = V.bl j) = decide (i = j) := by simp
  rw [e]; exact h
theorem r_neB {i j : Bool} (h : Q (.bl (!decide (i = j))) H) : rNe (.bl i) (.bl j) H Q := by
  refine ⟨rfl, ?_⟩
  have e : decide (V.bl i = V.bl j) = decide (i = j) := by simp
  rw [e]; exact h
theorem r_iteD {p A B : Prop} [Decidable p] (h1 : p → A) (h2 : ¬ p → B) : if decide p = true then A else B := ite2 (fun e => h1 (of_decide_eq_true e)) fun e => h2 fun q => e (decide_eq_true q)
theorem r_iteN {p A B : Prop} [Decidable p] (h1 : ¬ p → A) (h2 : p → B) : if (!decide p) = true then A else B := by
  by_cases h : p
  · rw [decide_eq_true h]; exact iteF (h2 h)
  · rw [decide_eq_false h]; exact iteT (h1 h)
theorem r_ixL {p : Addr} {xs : List V} {i : Int} (h : SqL K H p xs) (a : atI xs i = some v) (q : Q v H) : rIxL K (.ref p) (.int i) H Q := ⟨p, xs, i, v, rfl, rfl, h, a, q⟩
theorem r_ixT {p : Addr} {xs : List V} {i : Int} (h : SqT K H p xs) (a : atI xs i = some v) (q : Q v H) : rIxT K (.ref p) (.int i) H Q := ⟨p, xs, i, v, rfl, rfl, h, a, q⟩
theorem r_ixS {z : Str} {i : Int} {c : Nat} (hz : z.length ≤ sizeLine) (a : atI z.cps.toList i = some c) (q : Q (.str ⟨#[c]⟩) H) : rIxS (.str z) (.int i) H Q := ⟨z, i, c, rfl, rfl, hz, a, q⟩
/-! named readings for what the layer says by a bare fun -/
def rInt1 : List V → Hp → VK → Prop := fun xs H Q => (∃ i, xs = [.int i] ∧ Q (.int i) H) ∨ ∃ k, xs = [.bl k] ∧ Q (.int (if k then 1 else 0)) H
theorem call_int1' {X : Cx} : CallR X (.type "int") rInt1 := call_int1
theorem r_int1 {i : Int} (q : Q (.int i) H) : rInt1 [.int i] H Q := .inl ⟨i, rfl, q⟩
def rLenQ (K : PySem.W.Frag) : List V → Hp → VK → Prop := fun xs H Q => ∃ p ys, xs = [.ref p] ∧ (SqL K H p ys ∨ SqT K H p ys) ∧ Q (.int ys.length) H
theorem call_lenQ {X : Cx} : CallR X (.builtin "len") (rLenQ X.K) := call_len_seq
theorem r_lenL {p : Addr} {ys : List V} (h : SqL K H p ys) (q : Q (.int ys.length) H) : rLenQ K [.ref p] H Q := ⟨p, ys, rfl, .inl h, q⟩
theorem r_lenT {p : Addr} {ys : List V} (h : SqT K H p ys) (q : Q (.int ys.length) H) : rLenQ K [.ref p] H Q := ⟨p, ys, rfl, .inr h, q⟩
def rLenS1 : List V → Hp → VK → Prop := fun xs H Q => ∃ z, xs = [.str z] ∧ z.length ≤ sizeLine ∧ Q (.int z.length) H
theorem call_lenS1 {X : Cx} : CallR X (.builtin "len") rLenS1 := call_len_str
theorem r_lenS {z : Str} (h : z.length ≤ sizeLine) (q : Q (.int z.length) H) : rLenS1 [.str z] H Q := ⟨z, rfl, h, q⟩
def rAddS1 : R2 := fun x y H Q => ∃ i j, x = .str i ∧ y = .str j ∧ i.length + j.length ≤ sizeLine ∧ Q (.str (i ++ j)) H
theorem op_addS {X : Cx} : OpR X (binaryOp .Add) rAddS1 := op_add_str
theorem r_addS {i j : Str} (h : i.length + j.length ≤ sizeLine) (q : Q (.str (i ++ j)) H) : rAddS1 (.str i) (.str j) H Q := ⟨i, j, rfl, rfl, h, q⟩
def rIsN1 : R2 := fun x y H Q => y = .non ∧ Q (.bl (decide (x = .non))) H
def rNotN1 : R2 := fun x y H Q => y = .non ∧ Q (.bl (!decide (x = .non))) H
theorem op_isN1 {X : Cx} : OpR X (compareOp .Is) rIsN1 := op_isN
theorem op_notN1 {X : Cx} : OpR X (compareOp .IsNot) rNotN1 := op_notN
theorem r_isN (q : Q (.bl (decide (x = .non))) H) : rIsN1 x .non H Q := ⟨rfl, q⟩
theorem r_notN (q : Q (.bl (!decide (x = .non))) H) : rNotN1 x .non H Q := ⟨rfl, q⟩
def rTupOf (K : PySem.W.Frag) : List V → Hp → VK → Prop := fun xs H Q => ∃ p ys, xs = [.ref p] ∧ ((SqL K H p ys ∧ ∀ l, H l = none → Q (.ref l) (upd H l (.tup ys))) ∨ (SqT K H p ys ∧ Q (.ref p) H))
theorem call_tupOf {X : Cx} : CallR X (.type "tuple") (rTupOf X.K) := call_tuple_of
theorem r_tupL {p : Addr} {ys : List V} (h : SqL K H p ys) (q : ∀ l, H l = none → Q (.ref l) (upd H l (.tup ys))) : rTupOf K [.ref p] H Q := ⟨p, ys, rfl, .inl ⟨h, q⟩⟩
def rLstOf (K : PySem.W.Frag) : List V → Hp → VK → Prop := fun xs H Q => ∃ p ys, xs = [.ref p] ∧ (SqL K H p ys ∨ SqT K H p ys) ∧ ∀ l, H l = none → Q (.ref l) (upd H l (.lst ys))
theorem call_lstOf {X : Cx} : CallR X (.type "list") (rLstOf X.K) := call_list_of
theorem r_lstL {p : Addr} {ys : List V} (h : SqL K H p ys) (q : ∀ l, H l = none → Q (.ref l) (upd H l (.lst ys))) : rLstOf K [.ref p] H Q := ⟨p, ys, rfl, .inl h, q⟩
theorem r_lstT {p : Addr} {ys : List V} (h : SqT K H p ys) (q : ∀ l, H l = none → Q (.ref l) (upd H l (.lst ys))) : rLstOf K [.ref p] H Q := ⟨p, ys, rfl, .inr h, q⟩
theorem r_cat {l b : Addr} {xs zs : List V} (h1 : H l = some (.lst xs)) (h2 : H b = some (.lst zs)) (hl : xs.length + zs.length ≤ sizeLine) (q : ∀ p, H p = none → Q (.ref p) (upd H p (.lst (xs ++ zs)))) : rCat (.ref l) (.ref b) H Q := ⟨l, b, xs, zs, rfl, rfl, h1, h2, hl, q⟩
theorem r_append {l : Addr} {xs : List V} (h1 : H l = some (.lst xs)) (hl : xs.length < sizeLine) (q : Q .non (upd H l (.lst (xs ++ [y])))) : rAppend (.ref l) [y] H Q := ⟨l, xs, y, rfl, rfl, h1, hl, q⟩
theorem r_extend {l b : Addr} {xs zs : List V} (h1 : H l = some (.lst xs)) (h2 : H b = some (.lst zs)) (hl : xs.length + zs.length ≤ sizeLine) (q : Q .non (upd H l (.lst (xs ++ zs)))) : rExtend (.ref l) [.ref b] H Q := ⟨l, b, xs, zs, rfl, rfl, h1, h2, hl, q⟩
theorem r_bmL {r : V → List V → Hp → VK → Prop} {to : TE} {t : TA} (h : to σ H fun x H1 => tyV K "list" x H1 ∧ t σ H1 fun xs H2 => r x xs H2 Q) : tBM K "list" r to t σ H Q := h
theorem ty_l {p : Addr} {xs : List V} (h : SqL K H p xs) : tyV K "list" (.ref p) H := .inl ⟨rfl, _, h⟩
theorem r_slS {z : Str} {lo hi : Option Int} (h : z.length ≤ sizeLine) (q : Q (.str (cutS z lo hi)) H) : rSlS (.str z) lo hi H Q := ⟨z, rfl, h, q⟩
theorem r_slL {p : Addr} {xs : List V} {lo hi : Option Int} (h : SqL K H p xs) (q : ∀ l, H l = none → Q (.ref l) (upd H l (.lst (cutV xs lo hi)))) : rSlL K (.ref p) lo hi H Q := ⟨p, xs, rfl, h, q⟩
theorem r_sl {r : V → Option Int → Option Int → Hp → VK → Prop} {tl th : TO} (h : te σ H fun x H1 => tl σ H1 fun l H2 => th σ H2 fun u H3 => r x l u H3 Q) : tSl r te tl th σ H Q := h
theorem r_noPart {Qo : Option Int → Hp → Prop} (q : Qo none H) : tNoPart σ H Qo := q
theorem r_part {Qo : Option Int → Hp → Prop} (h : te σ H fun x H1 => ∃ i, x = .int i ∧ Qo (some i) H1) : tPart te σ H Qo := h
theorem r_pint {j : Int} {C : Int → Prop} (h : C j) : ∃ i, V.int j = .int i ∧ C i := ⟨j, rfl, h⟩
theorem r_isi {t u : Value} {b : Bool} {cl : V} (k : ClsV cl u) (ty : TyX K H x t) (e : PySem.W.kitOne K t u = some b) (q : Q (.bl b) H) : rIsi K [x, cl] H Q := ⟨x, cl, t, u, b, rfl, k, ty, e, q⟩
theorem r_rng1 {ta : TA} {R : It → Hp → Prop} (h : ta σ H fun vs H1 => ∃ j : Int, vs = [.int j] ∧ -(2 ^ 62) ≤ j ∧ j < 2 ^ 62 ∧ R (Itr 0 j.toNat) H1) : iRng1 ta σ H R := h
theorem r_rng1' {j : Int} {C : Int → Prop} (h1 : -(2 ^ 62) ≤ j) (h2 : j < 2 ^ 62) (h : C j) : ∃ j' : Int, [V.int j] = [.int j'] ∧ -(2 ^ 62) ≤ j' ∧ j' < 2 ^ 62 ∧ C j' := ⟨j, rfl, h1, h2, h⟩
end

/-! ### what was tracked stands -/
theorem same_t {K : PySem.W.Frag} {H H' : Hp} {a : Addr} {xs : List V} (e : Same H H') (h : SqT K H a xs) : SqT K H' a xs := by
  rcases h with (h | ⟨o, h⟩) | h
  · exact .inl (.inl (e _ _ h))
  · exact .inl (.inr ⟨o, e _ _ h⟩)
  · exact .inr h
theorem same_new {H : Hp} {p : Addr} {o : HO} (h : H p = none) : Same H (upd H p o) := fun b x e => by
  rw [upd_ne (ne_of_none e h)]
  exact e
/-- an object that H did not know was changed -/
theorem same_mut {H H' : Hp} {p : Addr} {o : HO} (e : Same H H') (h : H p = none) : Same H (upd H' p o) := fun a u ha => by
  rw [upd_ne (ne_of_none ha h)]
  exact e a u ha
mutual
theorem dp_same {K : PySem.W.Frag} {H H' : Hp} (e : Same H H') : ∀ (d : PyData) (v : V), Dp K H v d → Dp K H' v d
  | .none, _, h => by cases h; exact .non
  | .bool b, _, h => by cases h; exact .bl b
  | .int i, _, h => by cases h; exact .int i
  | .str x, _, h => by cases h; exact .str x
  | .list ds, _, h => by
    cases h with
    | lst hs ha => exact .lst (e.seq hs) (dpAll_same e ds _ ha)
  | .tuple ds, _, h => by
    cases h with
    | tup hs ha => exact .tup (same_t e hs) (dpAll_same e ds _ ha)
  | .dict _, _, h => by cases h
theorem dpAll_same {K : PySem.W.Frag} {H H' : Hp} (e : Same H H') : ∀ (ds : List PyData) (vs : List V), DpAll K H vs ds → DpAll K H' vs ds
  | [], _, h => by cases h; exact .nil
  | d :: ds, _, h => by
    cases h with
    | cons h1 h2 => exact .cons (dp_same e d _ h1) (dpAll_same e ds _ h2)
end
theorem dpAll_len {K : PySem.W.Frag} {H : Hp} : ∀ {vs : List V} {ds : List PyData}, DpAll K H vs ds → vs.length = ds.length
  | _, _, .nil => rfl
  | _, _, .cons _ t => congrArg (· + 1) (dpAll_len t)
theorem dpAll_get {K : PySem.W.Frag} {H : Hp} : ∀ {vs : List V} {ds : List PyData} {i : Nat} {d : PyData}, DpAll K H vs ds → ds[i]? = some d → ∃ v, vs[i]? = some v ∧ Dp K H v d
  | _, _, _, _, .nil, e => by simp at e
  | _, _, 0, _, .cons h _, e => by simp at e; subst e; exact ⟨_, rfl, h⟩
  | _, _, i + 1, d, .cons _ t, e => by
    obtain ⟨v, h1, h2⟩ := dpAll_get (i := i) (d := d) t (by simpa using e)
    exact ⟨v, by simpa using h1, h2⟩
theorem dpAll_map {K : PySem.W.Frag} {H : Hp} {α : Type} {f : α → V} {g : α → PyData} (h : ∀ x, Dp K H (f x) (g x)) : ∀ xs : List α, DpAll K H (xs.map f) (xs.map g)
  | [] => .nil
  | x :: xs => .cons (h x) (dpAll_map h xs)
/-- the type of what bears data -/
theorem tyx_sqL {K : PySem.W.Frag} {H : Hp} {a : Addr} {xs : List V} (h : SqL K H a xs) : TyX K H (.ref a) (.type "list") := by
  rcases h with (h | ⟨o, h⟩) | ⟨o, its, n, hk, hc, _⟩
  · exact .base (.lst h)
  · exact .base (.frz h)
  · exact .kList hk hc
theorem tyx_sqT {K : PySem.W.Frag} {H : Hp} {a : Addr} {xs : List V} (h : SqT K H a xs) : TyX K H (.ref a) (.type "tuple") := by
  rcases h with (h | ⟨o, h⟩) | ⟨o, its, n, hk, hc, _⟩
  · exact .base (.tup h)
  · exact .fTuple h
  · exact .kTuple hk hc

/-! ### walks over a text's signs -/
theorem for_str {x : Str} {g : TG} {tb : TS} {D : Ends} {σ : L2.St} {H : Hp} (Pv : Nat → L2.St → Hp → Prop) (h0 : Pv 0 σ H)
    (hs : ∀ i c σ H, x.cps.toList[i]? = some c → Pv i σ H → g (.str ⟨#[c]⟩) σ H fun σ2 H2 => tb { D with nx := Pv (i + 1), ct := Pv (i + 1), bk := D.nx } σ2 H2) (hd : ∀ σ H, Pv x.cps.size σ H → D.nx σ H) :
    ∃ W : Nat → Nat → L2.St → Hp → Prop, (∃ m, W 0 m σ H) ∧ ∀ i m σ H, W i m σ H →
      ((Its x).stop i H ∧ D.nx σ H) ∨ ((Its x).go i H ∧ ∃ N : L2.St → Hp → Prop, (∀ σ' H', N σ' H' → ∃ m', m' < m ∧ W (i + 1) m' σ' H') ∧ ∀ x' H', (Its x).yld i H x' H' → g x' σ H' fun σ2 H2 => tb { D with nx := N, ct := N, bk := D.nx } σ2 H2) := by
  refine ⟨fun i m σ H => m = x.cps.size - i ∧ i ≤ x.cps.size ∧ Pv i σ H, ⟨x.cps.size, by simp, Nat.zero_le _, h0⟩, ?_⟩
  rintro i m σ H ⟨rfl, hi, p⟩
  by_cases hlt : i < x.cps.size
  · refine .inr ⟨hlt, Pv (i + 1), fun σ' H' p' => ⟨x.cps.size - (i + 1), by omega, rfl, hlt, p'⟩, fun x' H' y => ?_⟩
    obtain ⟨e, c, hc, rfl⟩ := y
    subst e
    exact hs i c σ _ (by rw [Array.getElem?_toList]; exact hc) p
  · have e : i = x.cps.size := by omega
    subst e
    exact .inl ⟨Nat.le_refl _, hd σ H p⟩
end G
namespace G
open PySem PySem.Spec PyProof.Rows L2
/-! isinstance of built-in kinds -/
section
variable {K : PySem.W.Frag}
theorem kt_NoneType_list : PySem.W.kitOne K (.type "NoneType") (.type "list") = some false := kit_ty (by decide +kernel)
theorem kt_NoneType_tuple : PySem.W.kitOne K (.type "NoneType") (.type "tuple") = some false := kit_ty (by decide +kernel)
theorem kt_NoneType_bool : PySem.W.kitOne K (.type "NoneType") (.type "bool") = some false := kit_ty (by decide +kernel)
theorem kt_NoneType_int : PySem.W.kitOne K (.type "NoneType") (.type "int") = some false := kit_ty (by decide +kernel)
theorem kt_NoneType_str : PySem.W.kitOne K (.type "NoneType") (.type "str") = some false := kit_ty (by decide +kernel)
theorem kt_bool_list : PySem.W.kitOne K (.type "bool") (.type "list") = some false := kit_ty (by decide +kernel)
theorem kt_bool_tuple : PySem.W.kitOne K (.type "bool") (.type "tuple") = some false := kit_ty (by decide +kernel)
theorem kt_bool_bool : PySem.W.kitOne K (.type "bool") (.type "bool") = some true := kit_ty (by decide +kernel)
theorem kt_bool_int : PySem.W.kitOne K (.type "bool") (.type "int") = some true := kit_ty (by decide +kernel)
theorem kt_bool_str : PySem.W.kitOne K (.type "bool") (.type "str") = some false := kit_ty (by decide +kernel)
theorem kt_int_list : PySem.W.kitOne K (.type "int") (.type "list") = some false := kit_ty (by decide +kernel)
theorem kt_int_tuple : PySem.W.kitOne K (.type "int") (.type "tuple") = some false := kit_ty (by decide +kernel)
theorem kt_int_bool : PySem.W.kitOne K (.type "int") (.type "bool") = some false := kit_ty (by decide +kernel)
theorem kt_int_int : PySem.W.kitOne K (.type "int") (.type "int") = some true := kit_ty (by decide +kernel)
theorem kt_int_str : PySem.W.kitOne K (.type "int") (.type "str") = some false := kit_ty (by decide +kernel)
theorem kt_str_list : PySem.W.kitOne K (.type "str") (.type "list") = some false := kit_ty (by decide +kernel)
theorem kt_str_tuple : PySem.W.kitOne K (.type "str") (.type "tuple") = some false := kit_ty (by decide +kernel)
theorem kt_str_bool : PySem.W.kitOne K (.type "str") (.type "bool") = some false := kit_ty (by decide +kernel)
theorem kt_str_int : PySem.W.kitOne K (.type "str") (.type "int") = some false := kit_ty (by decide +kernel)
theorem kt_str_str : PySem.W.kitOne K (.type "str") (.type "str") = some true := kit_ty (by decide +kernel)
theorem kt_list_list : PySem.W.kitOne K (.type "list") (.type "list") = some true := kit_ty (by decide +kernel)
theorem kt_list_tuple : PySem.W.kitOne K (.type "list") (.type "tuple") = some false := kit_ty (by decide +kernel)
theorem kt_list_bool : PySem.W.kitOne K (.type "list") (.type "bool") = some false := kit_ty (by decide +kernel)
theorem kt_list_int : PySem.W.kitOne K (.type "list") (.type "int") = some false := kit_ty (by decide +kernel)
theorem kt_list_str : PySem.W.kitOne K (.type "list") (.type "str") = some false := kit_ty (by decide +kernel)
theorem kt_tuple_list : PySem.W.kitOne K (.type "tuple") (.type "list") = some false := kit_ty (by decide +kernel)
theorem kt_tuple_tuple : PySem.W.kitOne K (.type "tuple") (.type "tuple") = some true := kit_ty (by decide +kernel)
theorem kt_tuple_bool : PySem.W.kitOne K (.type "tuple") (.type "bool") = some false := kit_ty (by decide +kernel)
theorem kt_tuple_int : PySem.W.kitOne K (.type "tuple") (.type "int") = some false := kit_ty (by decide +kernel)
theorem kt_tuple_str : PySem.W.kitOne K (.type "tuple") (.type "str") = some false := kit_ty (by decide +kernel)
end
section
variable {K : PySem.W.Frag} {H : Hp} {Q : VK} {v : V}
theorem r_xL {p : Addr} {xs : List V} {i : Int} (h : SqL K H p xs) (a : atI xs i = some v) (q : Q v H) : rIx K (.ref p) (.int i) H Q := .inl ⟨p, xs, i, v, rfl, rfl, h, a, q⟩
theorem r_xT {p : Addr} {xs : List V} {i : Int} (h : SqT K H p xs) (a : atI xs i = some v) (q : Q v H) : rIx K (.ref p) (.int i) H Q := .inr (.inl ⟨p, xs, i, v, rfl, rfl, h, a, q⟩)
end
/-! a def of which nothing is promised -/
theorem fn_false {P : Program} {w : World} {K : PySem.W.Frag} {mg : Str → Option Value} {base : Heap} {CX : CXT} {k : Nat} {f : Addr} {fd : FuncData} {ps : List Str} : FnOk P w K mg base CX k f fd ps (fun _ _ _ _ => False) := by
  constructor
  · intros; contradiction
  · intros; contradiction
theorem fn_vac {P : Program} {w : World} {K : PySem.W.Frag} {mg : Str → Option Value} {base : Heap} {CX : CXT} {k : Nat} {f : Addr} {fd : FuncData} {ps : List Str} {sp : Sp} (h : ∀ vs H Q E, sp vs H Q E → False) : FnOk P w K mg base CX k f fd ps sp := by
  have e : sp = fun _ _ _ _ => False := by
    funext vs H Q E
    exact propext ⟨h vs H Q E, False.elim⟩
  rw [e]
  exact fn_false

/-! ### promises of the law's helpers -/
def cellV (ns : List Int) (k : Int) : Int := ns.getD k.toNat 0
def spCellG (K : PySem.W.Frag) : Sp := fun vs H Q _ => ∃ (l : Addr) (ns : List Int) (k : Int), vs = [.ref l, .int k] ∧ SqL K H l (ns.map V.int) ∧ 0 ≤ k ∧ Q (.int (cellV ns k)) H
/-- data of a depth below n, of bounded lengths -/
def fits : Nat → PyData → Prop
  | 0, _ => False
  | n + 1, .list ds => ds.length ≤ sizeLine ∧ ∀ d ∈ ds, fits n d
  | n + 1, .tuple ds => ds.length ≤ sizeLine ∧ ∀ d ∈ ds, fits n d
  | _ + 1, .dict _ => False
  | _ + 1, .none => True
  | _ + 1, .bool _ => True
  | _ + 1, .int _ => True
  | _ + 1, .str _ => True
def spSame (K : PySem.W.Frag) (n : Nat) : Sp := fun vs H Q _ => ∃ (x y : V) (d : PyData), vs = [x, y] ∧ Dp K H x d ∧ Dp K H y d ∧ fits n d ∧ Q (.bl true) H
/-- count new numbers from 0 to 999 -/
def spNums (K : PySem.W.Frag) : Sp := fun vs H Q _ => ∃ (c : Int) (n : Nat), vs = [.int c, .int (n : Int)] ∧ n ≤ 10000 ∧
  ∀ (H' : Hp) (p : Addr) (ns : List Int), Same H H' → H p = none → H' p = some (.lst (ns.map V.int)) → ns.length = n → (∀ z ∈ ns, 0 ≤ z ∧ z < 1000) → Q (.ref p) H'
theorem emod_rng (a : Int) {b : Int} (h : 0 < b) : 0 ≤ a % b ∧ a % b < b := ⟨Int.emod_nonneg a (by omega), Int.emod_lt_of_pos a h⟩
/-! texts as lists of codes -/
abbrev sV (l : List Nat) : V := .str ⟨l.toArray⟩
theorem str_app (a b : List Nat) : (⟨a.toArray⟩ : Str) ++ (⟨b.toArray⟩ : Str) = ⟨(a ++ b).toArray⟩ := congrArg Str.mk (show a.toArray ++ b.toArray = (a ++ b).toArray by simp)
theorem str_len (a : List Nat) : (⟨a.toArray⟩ : Str).length = a.length := by simp [Str.length]
/-- a comprehension over a text's signs -/
theorem lc_str {x : Str} {g : TG} {tt : TT} {te : TE} {vs : List Nat} {σ : L2.St} {H1 : Hp} {D : Addr} {Qd : Hp → Prop} (Pv : Nat → Hp → Prop) (h0 : Pv 0 (upd H1 D (.lst [])))
    (hs : ∀ i c H, x.cps.toList[i]? = some c → Pv i H → g (.str ⟨#[c]⟩) (wipe σ vs) H fun σ2 H2 => wipe σ2 vs = wipe σ vs ∧ tt σ2 H2 fun b H3 =>
      if b = true then te σ2 H3 fun y H4 => ∃ acc, H4 D = some (.lst acc) ∧ acc.length < sizeLine ∧ Pv (i + 1) (upd H4 D (.lst (acc ++ [y]))) else Pv (i + 1) H3) (hd : ∀ H, Pv x.cps.size H → Qd H) :
    ∃ W : Nat → Nat → Hp → Prop, (∃ m, W 0 m (upd H1 D (.lst []))) ∧ ∀ i m H, W i m H →
      ((Its x).stop i H ∧ Qd H) ∨ ((Its x).go i H ∧ ∃ Nx : Hp → Prop, (∀ H', Nx H' → ∃ m', m' < m ∧ W (i + 1) m' H') ∧ ∀ x' H', (Its x).yld i H x' H' → g x' (wipe σ vs) H' fun σ2 H2 => wipe σ2 vs = wipe σ vs ∧ tt σ2 H2 fun b H3 =>
        if b = true then te σ2 H3 fun y H4 => ∃ acc, H4 D = some (.lst acc) ∧ acc.length < sizeLine ∧ Nx (upd H4 D (.lst (acc ++ [y]))) else Nx H3) := by
  refine ⟨fun i m H => m = x.cps.size - i ∧ i ≤ x.cps.size ∧ Pv i H, ⟨x.cps.size, by simp, Nat.zero_le _, h0⟩, ?_⟩
  rintro i m H ⟨rfl, hi, p⟩
  by_cases hlt : i < x.cps.size
  · refine .inr ⟨hlt, Pv (i + 1), fun H' p' => ⟨x.cps.size - (i + 1), by omega, rfl, hlt, p'⟩, fun x' H' y => ?_⟩
    obtain ⟨e, c, hc, rfl⟩ := y
    subst e
    exact hs i c _ (by rw [Array.getElem?_toList]; exact hc) p
  · have e : i = x.cps.size := by omega
    subst e
    exact .inl ⟨Nat.le_refl _, hd H p⟩
theorem cut_abcd {m : Nat} (h4 : m ≤ 4) : cutS (Str.ofString "abcd") none (some (m : Int)) = ⟨(List.take m [97, 98, 99, 100]).toArray⟩ := by
  match m, h4 with
  | 0, _ => decide +kernel
  | 1, _ => decide +kernel
  | 2, _ => decide +kernel
  | 3, _ => decide +kernel
  | 4, _ => decide +kernel
section
variable {σ : L2.St} {H : Hp} {Q : VK} {K : PySem.W.Frag} {te : TE} {R : It → Hp → Prop}
theorem r_gn {i : Nat} {v : V} {C : L2.St → Hp → Prop} (h : C (σ.set i (some v)) H) : gName i v σ H C := h
theorem iteNT {A B : Prop} (h : B) : if (!true) = true then A else B := iteF h
theorem iteNF {A B : Prop} (h : A) : if (!false) = true then A else B := iteT h
theorem r_fdiv {g : Int → Int → V} {i j : Int} (hc : 0 < j ∧ j < 1073741824) (h : Q (g i j) H) : rI CDiv g (.int i) (.int j) H Q := ⟨i, j, rfl, rfl, hc, h⟩
theorem r_mod {g : Int → Int → V} {i j : Int} (hc : 0 < j) (h : Q (g i j) H) : rI (fun _ j => 0 < j) g (.int i) (.int j) H Q := ⟨i, j, rfl, rfl, hc, h⟩
theorem r_mul {g : Int → Int → V} {i j : Int} (hc : (-(2 ^ 64) < i ∧ i < 2 ^ 64) ∨ (-(2 ^ 64) < j ∧ j < 2 ^ 64)) (h : Q (g i j) H) : rI CMul g (.int i) (.int j) H Q := ⟨i, j, rfl, rfl, hc, h⟩
theorem r_pow {g : Int → Int → V} {i j : Int} (hc : 0 ≤ j ∧ j ≤ 1000000 ∧ i.natAbs < 2 ^ 64) (h : Q (g i j) H) : rI CPow g (.int i) (.int j) H Q := ⟨i, j, rfl, rfl, hc, h⟩
theorem r_iStr (h : te σ H fun v H1 => ∃ x, v = .str x ∧ R (Its x) H1) : iStr te σ H R := h
theorem r_iList (h : te σ H fun x H1 => ∃ a, x = .ref a ∧ (∃ xs, SqL K H1 a xs) ∧ R (Itl K a) H1) : iList K te σ H R := h
theorem r_iTup (h : te σ H fun x H1 => ∃ a, x = .ref a ∧ (∃ xs, SqT K H1 a xs) ∧ R (Itt K a) H1) : iTup K te σ H R := h
theorem r_str1 {z : Str} {C : Str → Prop} (h : C z) : ∃ x, V.str z = .str x ∧ C x := ⟨z, rfl, h⟩
theorem r_ref1 {p : Addr} {C : Addr → Prop} (h : C p) : ∃ a, V.ref p = .ref a ∧ C a := ⟨p, rfl, h⟩
end
end G
namespace L02
open PySem PySem.Spec PyProof.Rows L2 G
local macro_rules | `(tactic| walk_at "rd1") => `(tactic| first
  | (with_reducible refine r_seq ?_) | (with_reducible refine r_set ?_)
  | ((with_reducible refine' r_var ?rdh ?_); (case rdh => exact rfl))
  | (with_reducible refine r_c ?_) | (with_reducible refine r_op ?_) | (with_reducible refine r_un ?_) | (with_reducible refine r_cb ?_)
  | (with_reducible refine r_cons ?_) | (with_reducible refine r_nil ?_) | (with_reducible refine r_call ?_)
  | (with_reducible refine r_test ?_) | (with_reducible refine r_tb ?_) | (with_reducible refine r_bl ?_)
  | (with_reducible refine r_if ?_) | (with_reducible refine r_yes ?_) | (with_reducible refine r_ifx ?_) | (with_reducible refine r_and ?_) | (with_reducible refine r_or ?_) | (with_reducible refine r_not ?_)
  | (with_reducible refine r_andV ?_) | (with_reducible refine r_orV ?_) | (with_reducible refine r_notV ?_)
  | (with_reducible refine r_ret ?_) | (with_reducible refine r_retN ?_) | (with_reducible refine r_next ?_) | (with_reducible refine r_drop ?_) | (with_reducible refine r_asg ?_)
  | (with_reducible refine r_tup ?_) | (with_reducible refine r_lst ?_)
  | (with_reducible refine r_I0 ?_) | (with_reducible refine r_U ?_) | (with_reducible refine r_eqI ?_) | (with_reducible refine r_neI ?_) | (with_reducible refine r_eqS ?_) | (with_reducible refine r_neS ?_) | (with_reducible refine r_eqB ?_) | (with_reducible refine r_neB ?_)
  | (with_reducible refine r_int1 ?_) | (with_reducible refine r_isN ?_) | (with_reducible refine r_notN ?_)
  | (with_reducible refine iteT ?_) | (with_reducible refine iteF ?_)
  | (with_reducible refine r_sl ?_) | (with_reducible refine r_noPart ?_) | (with_reducible refine r_part ?_) | (with_reducible refine r_pint ?_)
  | ((with_reducible refine' r_isi (.ty _) ?rdt ?rdk ?_); (case rdt => first | exact .base (.int _) | exact .base (.str _) | exact .base (.bl _) | exact .base .non | exact tyx_sqL (by assumption) | exact tyx_sqT (by assumption)); (case rdk => first | exact kt_NoneType_list | exact kt_NoneType_tuple | exact kt_NoneType_bool | exact kt_NoneType_int | exact kt_NoneType_str | exact kt_bool_list | exact kt_bool_tuple | exact kt_bool_bool | exact kt_bool_int | exact kt_bool_str | exact kt_int_list | exact kt_int_tuple | exact kt_int_bool | exact kt_int_int | exact kt_int_str | exact kt_str_list | exact kt_str_tuple | exact kt_str_bool | exact kt_str_int | exact kt_str_str | exact kt_list_list | exact kt_list_tuple | exact kt_list_bool | exact kt_list_int | exact kt_list_str | exact kt_tuple_list | exact kt_tuple_tuple | exact kt_tuple_bool | exact kt_tuple_int | exact kt_tuple_str))
  | (with_reducible refine r_gn ?_) | ((with_reducible show tLc _ _ _ _ _ _ _ _); (first | show iStr _ _ _ _ | show iList _ _ _ _ _ | show iTup _ _ _ _ _ | show iRng1 _ _ _ _ | show iRng2 _ _ _ _)) | (with_reducible refine r_iStr ?_) | (with_reducible refine r_iList ?_) | (with_reducible refine r_iTup ?_) | (with_reducible refine r_str1 ?_) | (with_reducible refine r_ref1 ?_)
  | (with_reducible refine iteNT ?_) | (with_reducible refine iteNF ?_)
  | (with_reducible refine r_fdiv ⟨by decide, by decide⟩ ?_) | (with_reducible refine r_mod (by decide) ?_) | (with_reducible refine r_mul (.inr ⟨by decide, by decide⟩) ?_) | (with_reducible refine r_pow ⟨by decide, by decide, by decide⟩ ?_)
  | ((with_reducible show tFor _ _ _ _ _ _); (first | show iStr _ _ _ _ | show iList _ _ _ _ _ | show iTup _ _ _ _ _ | show iRng1 _ _ _ _ | show iRng2 _ _ _ _)) | (with_reducible refine r_rng1 ?_) | (with_reducible refine r_bmL ?_) | (with_reducible refine r_break ?_) | (with_reducible refine r_cont ?_))
local macro_rules | `(tactic| walk_at "rd") => `(tactic| repeat walk_at "rd1")
section
def topS (i : Nat) : Stmt := PySem.Challenge.pw_turnsandthrows_k02_words_upto.main.body.getD i (.Pass ⟨0, 0, 0, 0⟩)
abbrev s_l_cell : Stmt := topS 3
abbrev N_l_cell : List Str := ["script", "k"]
theorem sc_l_cell : FnScope N_l_cell ["script", "k"] (defScope s_l_cell) := ⟨rfl, rfl, rfl, by decide +kernel, rfl, by decide +kernel, by decide +kernel⟩
abbrev s_l_same : Stmt := topS 5
abbrev N_l_same : List Str := ["actual", "due", "k"]
theorem sc_l_same : FnScope N_l_same ["actual", "due"] (defScope s_l_same) := ⟨rfl, rfl, rfl, by decide +kernel, rfl, by decide +kernel, by decide +kernel⟩
abbrev s_words_upto : Stmt := topS 1
abbrev N_words_upto : List Str := ["letters", "length", "words", "longest", "_", "word", "letter"]
theorem sc_words_upto : FnScope N_words_upto ["letters", "length"] (defScope s_words_upto) := ⟨rfl, rfl, rfl, by decide +kernel, rfl, by decide +kernel, by decide +kernel⟩
abbrev s_l_words : Stmt := topS 6
abbrev N_l_words : List Str := ["letters", "length", "words", "last", "k", "longer", "word", "letter"]
theorem sc_l_words : FnScope N_l_words ["letters", "length"] (defScope s_l_words) := ⟨rfl, rfl, rfl, by decide +kernel, rfl, by decide +kernel, by decide +kernel⟩
abbrev s_law : Stmt := topS 8
abbrev N_law : List Str := ["script", "letters", "length", "due", "told"]
theorem sc_law : FnScope N_law ["script"] (defScope s_law) := ⟨rfl, rfl, rfl, by decide +kernel, rfl, by decide +kernel, by decide +kernel⟩
structure Ad where
  f_l_cell : Addr
  d_l_cell : FuncData
  f_l_same : Addr
  d_l_same : FuncData
  f_words_upto : Addr
  d_words_upto : FuncData
  f_l_words : Addr
  d_l_words : FuncData
  f_law : Addr
  d_law : FuncData
structure Txt (K : PySem.W.Frag) (mg : Str → Option Value) (a : Ad) : Prop where
  F_l_cell : Fun K "_law_cell" "_law_cell" s_l_cell a.f_l_cell a.d_l_cell
  b_l_cell : Binds K a.d_l_cell ["script", "k"] []
  g_l_cell : mg "_law_cell" = some (.ref a.f_l_cell)
  F_l_same : Fun K "_law_same" "_law_same" s_l_same a.f_l_same a.d_l_same
  b_l_same : Binds K a.d_l_same ["actual", "due"] []
  g_l_same : mg "_law_same" = some (.ref a.f_l_same)
  F_words_upto : Fun K "words_upto" "words_upto" s_words_upto a.f_words_upto a.d_words_upto
  b_words_upto : Binds K a.d_words_upto ["letters", "length"] []
  g_words_upto : mg "words_upto" = some (.ref a.f_words_upto)
  F_l_words : Fun K "_law_words" "_law_words" s_l_words a.f_l_words a.d_l_words
  b_l_words : Binds K a.d_l_words ["letters", "length"] []
  g_l_words : mg "_law_words" = some (.ref a.f_l_words)
  F_law : Fun K "law" "law" s_law a.f_law a.d_law
  b_law : Binds K a.d_law ["script"] []
  g_law : mg "law" = some (.ref a.f_law)
  z_bool : mg "bool" = none
  z_int : mg "int" = none
  z_isinstance : mg "isinstance" = none
  z_len : mg "len" = none
  z_list : mg "list" = none
  z_range : mg "range" = none
  z_str : mg "str" = none
  z_tuple : mg "tuple" = none
end

section
variable {P : Program} {w : World} {K : PySem.W.Frag} {mg : Str → Option Value} {base : Heap} {a : Ad}
theorem ok_l_cell (T : Txt K mg a) : FnOk P w K mg base CX0 1 a.f_l_cell a.d_l_cell ["script", "k"] (spCellG K) := by
  refine T.F_l_cell.ok sc_l_cell (fun vs H Q E h => ?_) (fun cdv A outer s H vs Q E hr h => ?_)
  · obtain ⟨l, ns, k, rfl, _⟩ := h
    rfl
  · obtain ⟨l, ns, k, rfl, hS, h0, q⟩ := h
    refine ⟨_, (pss_cons (ps_if (pt_cmpR op_lt (pv 1) (pe_callB call_lenQ (by rfl) T.z_len (by decide +kernel) (pa_cons (pv 0) pa_nil)) (nomark _)) (pss_one (ps_ret (pe_ix ix_list (pv 0) (pv 1) (fun _ _ => rfl)))) pss_nil)
      (pss_one (ps_ret pe_int))), ?_⟩
    walk_at "rd"
    refine r_lenL hS ?_
    walk_at "rd"
    rw [List.length_map]
    refine r_iteD (fun hk => ?_) (fun hk => ?_)
    · walk_at "rd"
      have hk' : k.toNat < ns.length := by omega
      refine r_ixL hS (at_of (j := k.toNat) (by omega) (by rw [List.getElem?_map, List.getElem?_eq_getElem hk']; rfl)) ?_
      have e : cellV ns k = ns[k.toNat] := by unfold cellV; rw [List.getD_eq_getElem?_getD, List.getElem?_eq_getElem hk']; rfl
      rw [e] at q
      exact q
    · walk_at "rd"
      have e : cellV ns k = 0 := by unfold cellV; rw [List.getD_eq_getElem?_getD, List.getElem?_eq_none (by omega)]; rfl
      rw [e] at q
      exact q

end

section
variable {P : Program} {w : World} {K : PySem.W.Frag} {mg : Str → Option Value} {base : Heap} {a : Ad}
theorem ok_l_same_n (T : Txt K mg a) : ∀ n, FnOk P w K mg base CX0 n a.f_l_same a.d_l_same ["actual", "due"] (spSame K n)
  | 0 => fn_vac fun vs H Q E h => by
    obtain ⟨x, y, d, _, _, _, hf, _⟩ := h
    cases d <;> exact hf
  | n + 1 => by
    have G_l_same := ok_l_same_n T n
    refine T.F_l_same.ok sc_l_same (fun vs H Q E h => ?_) (fun cdv A outer s H vs Q E hr h => ?_)
    · obtain ⟨x, y, d, rfl, _⟩ := h
      rfl
    · obtain ⟨x, y, d, rfl, hx, hy, hf, q⟩ := h
      refine ⟨_, (pss_cons (ps_if (pt_cmpR op_isN1 (pv 1) pe_non (nomark _)) (pss_one (ps_ret (pe_cmpR op_isN1 (pv 0) pe_non (nomark _)))) pss_nil)
      (pss_cons (ps_if (PW.pt (pw_or (pt_val (pe_callB call_isi (by rfl) T.z_isinstance (by decide +kernel) (pa_cons (pv 1) (pa_cons (pe_bltn (by rfl) T.z_list (v := V.ty "list") (u := Value.type "list") (by decide +kernel) rfl) pa_nil)))) (pw_or1 (pt_val (pe_callB call_isi (by rfl) T.z_isinstance (by decide +kernel) (pa_cons (pv 1) (pa_cons (pe_bltn (by rfl) T.z_tuple (v := V.ty "tuple") (u := Value.type "tuple") (by decide +kernel) rfl) pa_nil))))))) (pss_cons (ps_if (PW.pt (pw_or (pt_cmpR op_ne (pe_callB call_isi (by rfl) T.z_isinstance (by decide +kernel) (pa_cons (pv 1) (pa_cons (pe_bltn (by rfl) T.z_list (v := V.ty "list") (u := Value.type "list") (by decide +kernel) rfl) pa_nil))) (pe_callB call_isi (by rfl) T.z_isinstance (by decide +kernel) (pa_cons (pv 0) (pa_cons (pe_bltn (by rfl) T.z_list (v := V.ty "list") (u := Value.type "list") (by decide +kernel) rfl) pa_nil))) (nomark _)) (pw_or1 (pt_cmpR op_ne (pe_callB call_isi (by rfl) T.z_isinstance (by decide +kernel) (pa_cons (pv 1) (pa_cons (pe_bltn (by rfl) T.z_tuple (v := V.ty "tuple") (u := Value.type "tuple") (by decide +kernel) rfl) pa_nil))) (pe_callB call_isi (by rfl) T.z_isinstance (by decide +kernel) (pa_cons (pv 0) (pa_cons (pe_bltn (by rfl) T.z_tuple (v := V.ty "tuple") (u := Value.type "tuple") (by decide +kernel) rfl) pa_nil))) (nomark _))))) (pss_one (ps_ret pe_bl)) pss_nil)
      (pss_cons (ps_if (pt_cmpR op_ne (pe_callB call_lenQ (by rfl) T.z_len (by decide +kernel) (pa_cons (pv 0) pa_nil)) (pe_callB call_lenQ (by rfl) T.z_len (by decide +kernel) (pa_cons (pv 1) pa_nil)) (nomark _)) (pss_one (ps_ret pe_bl)) pss_nil)
      (pss_cons (ps_for PassesOwn.never rfl (pi_range1 (by rfl) T.z_range (pa_cons (pe_callB call_lenQ (by rfl) T.z_len (by decide +kernel) (pa_cons (pv 1) pa_nil)) pa_nil)) (pg_name (i := 2) sc_l_same.nd rfl (Or.inl rfl)) (pss_one (ps_if (pt_not (pt_val (pe_call (G_l_same) (hr.mono (by first | decide | omega)) (by rfl) T.g_l_same T.F_l_same.kp T.b_l_same .nil pass0 (pa_cons (pe_ix ix_seq (pv 0) (pv 2) (fun _ _ => rfl)) (pa_cons (pe_ix ix_seq (pv 1) (pv 2) (fun _ _ => rfl)) pa_nil))))) (pss_one (ps_ret pe_bl)) pss_nil)))
      (pss_one (ps_ret pe_bl))))) pss_nil)
      (pss_cons (ps_if (PW.pt (pw_or (pt_cmpR op_ne (pe_callB call_isi (by rfl) T.z_isinstance (by decide +kernel) (pa_cons (pv 1) (pa_cons (pe_bltn (by rfl) T.z_bool (v := V.ty "bool") (u := Value.type "bool") (by decide +kernel) rfl) pa_nil))) (pe_callB call_isi (by rfl) T.z_isinstance (by decide +kernel) (pa_cons (pv 0) (pa_cons (pe_bltn (by rfl) T.z_bool (v := V.ty "bool") (u := Value.type "bool") (by decide +kernel) rfl) pa_nil))) (nomark _)) (pw_or1 (pt_cmpR op_ne (pe_callB call_isi (by rfl) T.z_isinstance (by decide +kernel) (pa_cons (pv 1) (pa_cons (pe_bltn (by rfl) T.z_int (v := V.ty "int") (u := Value.type "int") (by decide +kernel) rfl) pa_nil))) (pe_callB call_isi (by rfl) T.z_isinstance (by decide +kernel) (pa_cons (pv 0) (pa_cons (pe_bltn (by rfl) T.z_int (v := V.ty "int") (u := Value.type "int") (by decide +kernel) rfl) pa_nil))) (nomark _))))) (pss_one (ps_ret pe_bl)) pss_nil)
      (pss_one (ps_ret (pe_and (pe_cmpR op_eq (pe_callB call_isi (by rfl) T.z_isinstance (by decide +kernel) (pa_cons (pv 1) (pa_cons (pe_bltn (by rfl) T.z_str (v := V.ty "str") (u := Value.type "str") (by decide +kernel) rfl) pa_nil))) (pe_callB call_isi (by rfl) T.z_isinstance (by decide +kernel) (pa_cons (pv 0) (pa_cons (pe_bltn (by rfl) T.z_str (v := V.ty "str") (u := Value.type "str") (by decide +kernel) rfl) pa_nil))) (nomark _)) (pe_one (pe_cmpR op_eq (pv 0) (pv 1) (nomark _))))))))), ?_⟩
      walk_at "rd"
      cases d with
      | none =>
        cases hx; cases hy
        refine r_iteD (fun _ => ?_) (fun e => absurd rfl e)
        walk_at "rd"
        exact q
      | bool b =>
        cases hx; cases hy
        refine r_iteD (fun e => nomatch e) (fun _ => ?_)
        walk_at "rd"
        refine r_iteN (fun e => absurd rfl e) (fun _ => ?_)
        walk_at "rd"
        refine r_iteN (fun e => absurd rfl e) (fun _ => ?_)
        walk_at "rd"
        refine r_iteD (fun _ => ?_) (fun e => absurd rfl e)
        walk_at "rd"
        rw [decide_eq_true rfl]
        exact q
      | int b =>
        cases hx; cases hy
        refine r_iteD (fun e => nomatch e) (fun _ => ?_)
        walk_at "rd"
        refine r_iteN (fun e => absurd rfl e) (fun _ => ?_)
        walk_at "rd"
        refine r_iteN (fun e => absurd rfl e) (fun _ => ?_)
        walk_at "rd"
        refine r_iteD (fun _ => ?_) (fun e => absurd rfl e)
        walk_at "rd"
        rw [decide_eq_true rfl]
        exact q
      | str b =>
        cases hx; cases hy
        refine r_iteD (fun e => nomatch e) (fun _ => ?_)
        walk_at "rd"
        refine r_iteN (fun e => absurd rfl e) (fun _ => ?_)
        walk_at "rd"
        refine r_iteN (fun e => absurd rfl e) (fun _ => ?_)
        walk_at "rd"
        refine r_iteD (fun _ => ?_) (fun e => absurd rfl e)
        walk_at "rd"
        rw [decide_eq_true rfl]
        exact q
      | dict _ => exact hf.elim
      | list ds =>
        cases hx with
        | lst hs1 ha1 =>
        cases hy with
        | lst hs2 ha2 =>
        have e1 := dpAll_len ha1
        have e2 := dpAll_len ha2
        refine r_iteD (fun e => nomatch e) (fun _ => ?_)
        walk_at "rd"
        refine r_iteN (fun e => absurd rfl e) (fun _ => ?_)
        walk_at "rd"
        refine r_iteN (fun e => absurd rfl e) (fun _ => ?_)
        walk_at "rd"
        refine r_lenL hs1 ?_
        walk_at "rd"
        refine r_lenL hs2 ?_
        walk_at "rd"
        refine r_iteN (fun e => absurd (by rw [e1, e2]) e) (fun _ => ?_)
        walk_at "rd"
        refine r_lenL hs2 ?_
        walk_at "rd"
        have hz : ds.length ≤ 16777216 := hf.1
        refine r_rng1' (by omega) (by omega) ?_
        rw [e2, Int.toNat_natCast]
        refine for_range (lo := 0) (n := ds.length) (fun i σ H' => H' = H ∧ ∃ kv, σ = [some _, some _, kv]) ⟨rfl, _, rfl⟩ (fun i σ H' hi hP => ?_) (fun σ H' hP => ?_)
        · obtain ⟨rfl, kv, rfl⟩ := hP
          obtain ⟨v1, g1, d1⟩ := dpAll_get ha1 (List.getElem?_eq_getElem hi)
          obtain ⟨v2, g2, d2⟩ := dpAll_get ha2 (List.getElem?_eq_getElem hi)
          show tIfS _ _ _ _ _ _
          walk_at "rd"
          refine r_xL hs1 (at_of (j := i) (by omega) g1) ?_
          walk_at "rd"
          refine r_xL hs2 (at_of (j := i) (by omega) g2) ?_
          walk_at "rd"
          refine ⟨v1, v2, ds[i], rfl, d1, d2, hf.2 _ (List.getElem_mem hi), ?_⟩
          walk_at "rd"
          exact ⟨rfl, _, rfl⟩
        · obtain ⟨rfl, kv, rfl⟩ := hP
          walk_at "rd"
          exact q
      | tuple ds =>
        cases hx with
        | tup hs1 ha1 =>
        cases hy with
        | tup hs2 ha2 =>
        have e1 := dpAll_len ha1
        have e2 := dpAll_len ha2
        refine r_iteD (fun e => nomatch e) (fun _ => ?_)
        walk_at "rd"
        refine r_iteN (fun e => absurd rfl e) (fun _ => ?_)
        walk_at "rd"
        refine r_iteN (fun e => absurd rfl e) (fun _ => ?_)
        walk_at "rd"
        refine r_lenT hs1 ?_
        walk_at "rd"
        refine r_lenT hs2 ?_
        walk_at "rd"
        refine r_iteN (fun e => absurd (by rw [e1, e2]) e) (fun _ => ?_)
        walk_at "rd"
        refine r_lenT hs2 ?_
        walk_at "rd"
        have hz : ds.length ≤ 16777216 := hf.1
        refine r_rng1' (by omega) (by omega) ?_
        rw [e2, Int.toNat_natCast]
        refine for_range (lo := 0) (n := ds.length) (fun i σ H' => H' = H ∧ ∃ kv, σ = [some _, some _, kv]) ⟨rfl, _, rfl⟩ (fun i σ H' hi hP => ?_) (fun σ H' hP => ?_)
        · obtain ⟨rfl, kv, rfl⟩ := hP
          obtain ⟨v1, g1, d1⟩ := dpAll_get ha1 (List.getElem?_eq_getElem hi)
          obtain ⟨v2, g2, d2⟩ := dpAll_get ha2 (List.getElem?_eq_getElem hi)
          show tIfS _ _ _ _ _ _
          walk_at "rd"
          refine r_xT hs1 (at_of (j := i) (by omega) g1) ?_
          walk_at "rd"
          refine r_xT hs2 (at_of (j := i) (by omega) g2) ?_
          walk_at "rd"
          refine ⟨v1, v2, ds[i], rfl, d1, d2, hf.2 _ (List.getElem_mem hi), ?_⟩
          walk_at "rd"
          exact ⟨rfl, _, rfl⟩
        · obtain ⟨rfl, kv, rfl⟩ := hP
          walk_at "rd"
          exact q
theorem ok_l_same (T : Txt K mg a) : FnOk P w K mg base CX0 3 a.f_l_same a.d_l_same ["actual", "due"] (spSame K 3) := ok_l_same_n T _

end

def ext (cs : List Nat) (w : List Nat) : List (List Nat) := cs.map fun c => w ++ [c]
def wNext (cs : List Nat) (ws : List (List Nat)) : List (List Nat) := ws.flatMap (ext cs)
def wLast (cs : List Nat) : Nat → List (List Nat)
  | 0 => [[]]
  | n + 1 => wNext cs (wLast cs n)
def wAll (cs : List Nat) : Nat → List (List Nat)
  | 0 => [[]]
  | n + 1 => wAll cs n ++ wLast cs (n + 1)
theorem wNext_len (cs : List Nat) : ∀ ws, (wNext cs ws).length = ws.length * cs.length
  | [] => by simp [wNext]
  | w :: ws => by
    have ih := wNext_len cs ws
    unfold wNext at ih ⊢
    rw [List.flatMap_cons, List.length_append, ih, List.length_cons, Nat.succ_mul]
    unfold ext
    rw [List.length_map]
    omega
theorem wLast_len (cs : List Nat) : ∀ n, (wLast cs n).length = cs.length ^ n
  | 0 => rfl
  | n + 1 => by
    show (wNext cs (wLast cs n)).length = _
    rw [wNext_len, wLast_len cs n, Nat.pow_succ]
theorem wLast_word (cs : List Nat) : ∀ n w, w ∈ wLast cs n → w.length = n
  | 0, w, h => by
    have e : w = [] := by simpa [wLast] using h
    rw [e]; rfl
  | n + 1, w, h => by
    obtain ⟨v, hv, hw⟩ := List.mem_flatMap.mp (show w ∈ (wLast cs n).flatMap (ext cs) from h)
    obtain ⟨c, _, rfl⟩ := List.mem_map.mp hw
    rw [List.length_append, wLast_word cs n v hv]
    rfl
theorem pow_mono {k i n : Nat} (hk : 1 ≤ k) (h : i ≤ n) : k ^ i ≤ k ^ n := Nat.pow_le_pow_right hk h
theorem wAll_len (cs : List Nat) (N : Nat) (hk : 1 ≤ cs.length) : ∀ n, n ≤ N → (wAll cs n).length ≤ (n + 1) * cs.length ^ N
  | 0, _ => by
    show 1 ≤ _
    have : 1 ≤ cs.length ^ N := Nat.one_le_pow _ _ hk
    omega
  | n + 1, h => by
    have ih := wAll_len cs N hk n (by omega)
    show (wAll cs n ++ wLast cs (n + 1)).length ≤ _
    rw [List.length_append, wLast_len]
    have := pow_mono hk h
    have e : (n + 1 + 1) * cs.length ^ N = (n + 1) * cs.length ^ N + cs.length ^ N := Nat.succ_mul _ _
    omega
theorem wAll_word (cs : List Nat) : ∀ n w, w ∈ wAll cs n → w.length ≤ n
  | 0, w, h => by
    have e : w = [] := by simpa [wAll] using h
    rw [e]; exact Nat.le_refl _
  | n + 1, w, h => by
    rcases List.mem_append.mp (show w ∈ wAll cs n ++ wLast cs (n + 1) from h) with h | h
    · exact Nat.le_succ_of_le (wAll_word cs n w h)
    · exact Nat.le_of_eq (wLast_word cs _ w h)
/-- the words made so far: all of the first i, and j of the next -/
def wPart (cs : List Nat) (ws : List (List Nat)) (i j : Nat) : List (List Nat) := (ws.take i).flatMap (ext cs) ++ (match ws[i]? with | some w => (cs.take j).map fun c => w ++ [c] | none => [])
theorem wPart_0 (cs ws) : wPart cs ws 0 0 = [] := by unfold wPart; cases ws <;> simp
theorem wPart_turn {cs ws} {i : Nat} (h : i < ws.length) : wPart cs ws i cs.length = wPart cs ws (i + 1) 0 := by
  unfold wPart
  rw [List.getElem?_eq_getElem h]
  simp only [List.take_length]
  rw [List.take_add_one, List.getElem?_eq_getElem h, List.flatMap_append]
  have e : ∀ (o : Option (List Nat)), (match o with | some w => (List.take 0 cs).map fun c => w ++ [c] | none => ([] : List (List Nat))) = [] := by
    intro o; cases o <;> rfl
  rw [e, List.append_nil]
  simp [ext]
theorem wPart_end (cs ws) : wPart cs ws ws.length 0 = wNext cs ws := by
  unfold wPart wNext
  rw [List.getElem?_eq_none (Nat.le_refl _), List.take_length, List.append_nil]
theorem wPart_step {cs ws} {i j c} {w : List Nat} (hw : ws[i]? = some w) (hc : cs[j]? = some c) : wPart cs ws i (j + 1) = wPart cs ws i j ++ [w ++ [c]] := by
  unfold wPart
  rw [hw]
  simp only [List.append_assoc]
  rw [List.take_add_one, hc, List.map_append]
  rfl
theorem wPart_len {cs ws} {i j : Nat} (hi : i ≤ ws.length) (hj : j ≤ cs.length) : (wPart cs ws i j).length ≤ ws.length * cs.length := by
  unfold wPart
  have h1 := wNext_len cs (ws.take i)
  unfold wNext at h1
  rw [List.length_append, h1, List.length_take]
  by_cases h : i < ws.length
  · rw [List.getElem?_eq_getElem h]
    simp only [List.length_map, List.length_take]
    have e1 : min i ws.length = i := Nat.min_eq_left hi
    have e2 : min j cs.length = j := Nat.min_eq_left hj
    rw [e1, e2]
    have : (i + 1) * cs.length ≤ ws.length * cs.length := Nat.mul_le_mul_right _ h
    rw [Nat.succ_mul] at this
    omega
  · rw [List.getElem?_eq_none (by omega)]
    have e1 : min i ws.length = ws.length := Nat.min_eq_right (by omega)
    rw [e1]
    exact Nat.le_refl _
def spWords (K : PySem.W.Frag) : Sp := fun vs H Q _ => ∃ (cs : List Nat) (n : Nat), vs = [sV cs, .int (n : Int)] ∧ 1 ≤ cs.length ∧ cs.length ^ n ≤ 20000 ∧ n ≤ 400 ∧
  ∀ (H' : Hp) (p : Addr), Same H H' → H p = none → H' p = some (.lst ((wAll cs n).map sV)) → Q (.ref p) H'

section
variable {P : Program} {w : World} {K : PySem.W.Frag} {mg : Str → Option Value} {base : Heap} {a : Ad}
theorem ok_words_upto (T : Txt K mg a) : FnOk P w K mg base CX0 1 a.f_words_upto a.d_words_upto ["letters", "length"] (spWords K) := by
  refine T.F_words_upto.ok sc_words_upto (fun vs H Q E h => ?_) (fun cdv A outer s H vs Q E hr h => ?_)
  · obtain ⟨cs, n, rfl, _⟩ := h
    rfl
  · obtain ⟨cs, n, rfl, hk, hb, hn, q⟩ := h
    refine ⟨_, (pss_cons (ps_set (i := 2) sc_words_upto.nd rfl (Or.inl rfl) (pe_lst (pa_cons pe_str pa_nil)))
      (pss_cons (ps_set (i := 3) sc_words_upto.nd rfl (Or.inl rfl) (pe_lst (pa_cons pe_str pa_nil)))
      (pss_cons (ps_for PassesOwn.never rfl (pi_range1 (by rfl) T.z_range (pa_cons (pv 1) pa_nil)) (pg_name (i := 4) sc_words_upto.nd rfl (Or.inl rfl)) (pss_cons (ps_setLc2 (i := 3) (own := [("word", 5), ("letter", 6)]) (vs1 := [6]) (g := gName 5) (g1 := gName 6) (tt := tYes) (tt1 := tYes) rfl sc_words_upto.nd rfl rfl (sw_true rfl rfl rfl (by decide +kernel)) (pi_list (pv 3)) (blkOk_by (N := N_words_upto) (sc := defScope s_words_upto) (by decide +kernel)) (by decide) (fun _ _ _ _ _ => pg_name (i := 5) sc_words_upto.nd rfl (Or.inl rfl)) (fun _ _ _ _ _ => pts_nil) (fun _ _ _ _ _ => (pi_str (pv 0))) (fun _ _ _ _ _ => pg_name (i := 6) sc_words_upto.nd rfl (Or.inl rfl)) (fun _ _ _ _ _ => pts_nil) (fun _ _ _ _ _ => (pe_op op_addS (pv 5) (pv 6))))
      (pss_one (ps_expr (pe_bm PySem.F.plainAttrs_list PySem.F.slot_list_extend PySem.F.type_list_extend mt_extend (pv 2) (pa_cons (pv 3) pa_nil))))))
      (pss_one (ps_ret (pv 2)))))), ?_⟩
    walk_at "rd"
    refine ⟨by decide, fun pw hw => ?_⟩
    walk_at "rd"
    refine ⟨by decide, fun pl hl => ?_⟩
    walk_at "rd"
    refine r_rng1' (by omega) (by omega) ?_
    rw [Int.toNat_natCast]
    have npl : pl ≠ pw := fun e => by
      rw [e, upd_same] at hl
      cases hl
    refine for_range (lo := 0) (n := n) (fun i σ H' => ∃ pl y4, σ = [some (sV cs), some (.int (n : Int)), some (.ref pw), some (.ref pl), y4, none, none] ∧ Same H H' ∧ pl ≠ pw ∧
      H' pw = some (.lst ((wAll cs i).map sV)) ∧ H' pl = some (.lst ((wLast cs i).map sV)))
      ⟨pl, none, rfl, (same_new hw).trans (same_new hl), npl, ?_, upd_same⟩ (fun i σ H' hi hP => ?_) (fun σ H' hP => ?_)
    · rw [upd_ne npl.symm, upd_same]
      rfl
    · obtain ⟨pl, y4, rfl, sm, npl, hA, hL⟩ := hP
      have hlen : (wLast cs i).length ≤ 20000 := by
        rw [wLast_len]
        exact Nat.le_trans (pow_mono hk (by omega)) hb
      have hnx : (wLast cs i).length * cs.length ≤ 20000 := by
        rw [wLast_len, ← Nat.pow_succ]
        exact Nat.le_trans (pow_mono hk (by omega)) hb
      show tSeq _ _ _ _ _
      walk_at "rd"
      show iList _ (tVar 3) _ _ _
      refine ⟨_, rfl, pl, rfl, ⟨_, SqL.of hL⟩, fun D hD => ?_⟩
      have nDw : D ≠ pw := fun e => by rw [e, hA] at hD; cases hD
      refine ⟨fun i' m G => m = (wLast cs i).length - i' ∧ i' ≤ (wLast cs i).length ∧ Same H' G ∧ G D = some (.lst ((wPart cs (wLast cs i) i' 0).map sV)),
        ⟨_, rfl, Nat.zero_le _, same_new hD, by rw [upd_same, wPart_0]; rfl⟩, ?_⟩
      rintro i' m G ⟨rfl, hi', sG, hG⟩
      have hS : SqL K G pl ((wLast cs i).map sV) := sG.seq (SqL.of hL)
      by_cases hlt : i' < (wLast cs i).length
      · have gw : ((wLast cs i).map sV)[i']? = some (sV (wLast cs i)[i']) := by
          rw [List.getElem?_map, List.getElem?_eq_getElem hlt]; rfl
        refine .inr ⟨⟨_, _, hS, gw⟩, fun G' => Same H' G' ∧ G' D = some (.lst ((wPart cs (wLast cs i) (i' + 1) 0).map sV)),
          fun G' h => ⟨_, by omega, rfl, hlt, h.1, h.2⟩, fun x G' hy => ?_⟩
        obtain ⟨rfl, fv⟩ := hy
        have ev := Option.some.inj ((fv _ hS).symm.trans gw)
        subst ev
        refine ⟨rfl, r_yes (iteT ?_)⟩
        refine ⟨_, rfl, _, rfl, fun j m2 G2 => m2 = cs.length - j ∧ j ≤ cs.length ∧ Same H' G2 ∧ G2 D = some (.lst ((wPart cs (wLast cs i) i' j).map sV)),
          ⟨_, rfl, Nat.zero_le _, sG, hG⟩, ?_⟩
        rintro j m2 G2 ⟨rfl, hj, sG2, hG2⟩
        by_cases hjl : j < cs.length
        · refine .inr ⟨by show j < cs.toArray.size; simpa using hjl, fun G' => Same H' G' ∧ G' D = some (.lst ((wPart cs (wLast cs i) i' (j + 1)).map sV)),
            fun G' h => ⟨_, by omega, rfl, hjl, h.1, h.2⟩, fun x G' hy => ?_⟩
          obtain ⟨rfl, c, hc, rfl⟩ := hy
          have hc' : cs[j]? = some c := by simpa using hc
          refine ⟨rfl, r_yes (iteT ?_)⟩
          have hwl : (wLast cs i)[i'].length = i := wLast_word cs i _ (List.getElem_mem hlt)
          show tOp _ _ _ _ _ _
          walk_at "rd"
          refine r_addS ?_ ?_
          · show (wLast cs i)[i'].toArray.size + 1 ≤ sizeLine
            rw [List.size_toArray, hwl]
            exact Nat.le_trans (show i + 1 ≤ 1000 by omega) (by decide)
          · have hpl := wPart_len (cs := cs) (ws := wLast cs i) (i := i') (j := j) hi' hj
            refine ⟨_, hG2, ?_, same_mut sG2 hD, ?_⟩
            · rw [List.length_map]
              exact Nat.lt_of_le_of_lt (Nat.le_trans hpl hnx) (by decide)
            · rw [upd_same, wPart_step (List.getElem?_eq_getElem hlt) hc', List.map_append]
              have ea := str_app (wLast cs i)[i'] [c]
              rw [show (⟨(wLast cs i)[i'].toArray⟩ : Str) ++ (⟨#[c]⟩ : Str) = ⟨((wLast cs i)[i'] ++ [c]).toArray⟩ from ea]
              rfl
        · have ej : j = cs.length := by omega
          subst ej
          refine .inl ⟨by show cs.toArray.size ≤ _; simp, sG2, ?_⟩
          rw [← wPart_turn hlt]
          exact hG2
      · have ei : i' = (wLast cs i).length := by omega
        subst ei
        refine .inl ⟨⟨_, hS, by rw [List.length_map]; exact Nat.le_refl _⟩, ?_⟩
        rw [wPart_end] at hG
        dsimp only
        walk_at "rd"
        refine ⟨ty_l (SqL.of (sG _ _ hA)), ?_⟩
        walk_at "rd"
        have hwa := wAll_len cs n hk i (by omega)
        have hz : (wAll cs i).length ≤ 8020000 := by
          refine Nat.le_trans hwa (Nat.le_trans (Nat.mul_le_mul_left _ hb) ?_)
          omega
        refine r_extend (sG _ _ hA) hG ?_ ?_
        · rw [List.length_map, List.length_map, wNext_len]
          have : (sizeLine : Nat) = 16777216 := by decide
          omega
        · refine ⟨D, _, rfl, fun b o e => ?_, nDw, ?_, ?_⟩
          · have nb : b ≠ pw := ne_of_none e hw
            rw [upd_ne nb]
            exact sG _ _ (sm _ _ e)
          · rw [upd_same, ← List.map_append]
            rfl
          · rw [upd_ne nDw]
            exact hG
    · obtain ⟨pl, y4, rfl, sm, npl, hA, hL⟩ := hP
      walk_at "rd"
      exact q H' pw sm hw hA
end

section
variable {P : Program} {w : World} {K : PySem.W.Frag} {mg : Str → Option Value} {base : Heap} {a : Ad}
def abcd (m : Nat) : List Nat := List.take m [97, 98, 99, 100]
theorem abcd_len {m : Nat} (h : m ≤ 4) : (abcd m).length = m := by
  unfold abcd
  rw [List.length_take]
  exact Nat.min_eq_left h
def spLWords (K : PySem.W.Frag) : Sp := fun vs H Q _ => ∃ (m n : Nat), vs = [.int (m : Int), .int (n : Int)] ∧ 1 ≤ m ∧ m ≤ 4 ∧ m ^ n ≤ 20000 ∧ n ≤ 400 ∧
  ∀ (H' : Hp) (p : Addr), Same H H' → H p = none → H' p = some (.lst ((wAll (abcd m) n).map sV)) → Q (.ref p) H'
theorem ok_l_words (T : Txt K mg a) : FnOk P w K mg base CX0 1 a.f_l_words a.d_l_words ["letters", "length"] (spLWords K) := by
  refine T.F_l_words.ok sc_l_words (fun vs H Q E h => ?_) (fun cdv A outer s H vs Q E hr h => ?_)
  · obtain ⟨m, n, rfl, _⟩ := h
    rfl
  · obtain ⟨m, n, rfl, h1, h4, hb, hn, q⟩ := h
    have ecs : (abcd m).length = m := abcd_len h4
    refine ⟨_, (pss_cons (ps_set (i := 2) sc_l_words.nd rfl (Or.inl rfl) (pe_lst (pa_cons pe_str pa_nil)))
      (pss_cons (ps_set (i := 3) sc_l_words.nd rfl (Or.inl rfl) (pe_lst (pa_cons pe_str pa_nil)))
      (pss_cons (ps_for PassesOwn.never rfl (pi_range1 (by rfl) T.z_range (pa_cons (pv 1) pa_nil)) (pg_name (i := 4) sc_l_words.nd rfl (Or.inl rfl)) (pss_cons (ps_set (i := 5) sc_l_words.nd rfl (Or.inl rfl) (pe_lst pa_nil))
      (pss_cons (ps_for PassesOwn.never rfl (pi_list (pv 3)) (pg_name (i := 6) sc_l_words.nd rfl (Or.inr rfl)) (pss_one (ps_set (i := 5) sc_l_words.nd rfl (Or.inl rfl) (pe_op op_cat (pv 5) (pe_lc (own := [("letter", 7)]) (g := gName 7) (tt := tYes) rfl sc_l_words.nd (pi_str (pe_slice sl_str pe_str po_none (po_some (pv 0)))) (blkOk_by (N := N_l_words) (sc := defScope s_l_words) (by decide +kernel)) (fun _ _ _ _ _ => pg_name (i := 7) sc_l_words.nd rfl (Or.inl rfl)) (fun _ _ _ _ _ => pts_nil) (fun _ _ _ _ _ => (pe_op op_addS (pv 6) (pv 7))))))))
      (pss_cons (ps_set (i := 3) sc_l_words.nd rfl (Or.inl rfl) (pv 5))
      (pss_one (ps_set (i := 2) sc_l_words.nd rfl (Or.inl rfl) (pe_op op_cat (pv 2) (pv 3))))))))
      (pss_one (ps_ret (pv 2)))))), ?_⟩
    walk_at "rd"
    refine ⟨by decide, fun pw hw => ?_⟩
    walk_at "rd"
    refine ⟨by decide, fun pl hl => ?_⟩
    walk_at "rd"
    refine r_rng1' (by omega) (by omega) ?_
    rw [Int.toNat_natCast]
    have npl : pl ≠ pw := fun e => by
      rw [e, upd_same] at hl
      cases hl
    refine for_range (lo := 0) (n := n) (fun i σ H' => ∃ pw pl y4 y5 y6, σ = [some (.int (m : Int)), some (.int (n : Int)), some (.ref pw), some (.ref pl), y4, y5, y6, none] ∧ Same H H' ∧ H pw = none ∧
      H' pw = some (.lst ((wAll (abcd m) i).map sV)) ∧ H' pl = some (.lst ((wLast (abcd m) i).map sV)))
      ⟨pw, pl, none, none, none, rfl, (same_new hw).trans (same_new hl), hw, ?_, upd_same⟩ (fun i σ H' hi hP => ?_) (fun σ H' hP => ?_)
    · rw [upd_ne npl.symm, upd_same]
      rfl
    · obtain ⟨pw, pl, y4, y5, y6, rfl, sm, hw, hA, hL⟩ := hP
      have hk : 1 ≤ (abcd m).length := by rw [ecs]; exact h1
      have hb' : (abcd m).length ^ n ≤ 20000 := by rw [ecs]; exact hb
      have hlen : (wLast (abcd m) i).length ≤ 20000 := by
        rw [wLast_len]
        exact Nat.le_trans (pow_mono hk (by omega)) hb'
      have hnx : (wLast (abcd m) i).length * (abcd m).length ≤ 20000 := by
        rw [wLast_len, ← Nat.pow_succ]
        exact Nat.le_trans (pow_mono hk (by omega)) hb'
      have hwa := wAll_len (abcd m) n hk i (by omega)
      have hz : (wAll (abcd m) i).length ≤ 8020000 := by
        refine Nat.le_trans hwa (Nat.le_trans (Nat.mul_le_mul_left _ hb') ?_)
        omega
      have zl : (sizeLine : Nat) = 16777216 := by decide
      walk_at "rd"
      refine ⟨by decide, fun po ho => ?_⟩
      walk_at "rd"
      have s1 : Same H' (upd H' po (.lst [])) := same_new ho
      refine ⟨⟨_, SqL.of (s1 _ _ hL)⟩, ?_⟩
      refine for_list (xs := (wLast (abcd m) i).map sV) (fun i' σ G => ∃ po y6, σ = [some (.int (m : Int)), some (.int (n : Int)), some (.ref pw), some (.ref pl), some (.int (0 + (i : Int))), some (.ref po), y6, none] ∧ Same H' G ∧
        G po = some (.lst ((wPart (abcd m) (wLast (abcd m) i) i' 0).map sV)))
        ⟨po, _, rfl, s1, by rw [upd_same, wPart_0]; rfl⟩ (fun i' σ G _ hP => ?_) (fun i' x σ G hx hP => ?_) (fun σ G hP => ?_)
      · obtain ⟨po, y6, rfl, sG, hG⟩ := hP
        exact SqL.of (sG _ _ hL)
      · obtain ⟨po, y6, rfl, sG, hG⟩ := hP
        have hlt : i' < (wLast (abcd m) i).length := by
          have := (List.getElem?_eq_some_iff.mp hx).1
          rw [List.length_map] at this
          exact this
        have ex : x = sV (wLast (abcd m) i)[i'] := by
          rw [List.getElem?_map, List.getElem?_eq_getElem hlt] at hx
          exact (Option.some.inj hx).symm
        subst ex
        walk_at "rd"
        walk_at "rd"
        refine r_slS (by decide +kernel) ?_
        walk_at "rd"
        intro D hD
        rw [cut_abcd h4]
        have nDp : D ≠ po := fun e => by rw [e, hG] at hD; cases hD
        have hwl : (wLast (abcd m) i)[i'].length = i := wLast_word _ i _ (List.getElem_mem hlt)
        refine lc_str (fun j G2 => Same G G2 ∧ G2 D = some (.lst ((((abcd m).take j).map fun c => (wLast (abcd m) i)[i'] ++ [c]).map sV))) ⟨same_new hD, by rw [upd_same]; rfl⟩ (fun j c G2 hc hP => ?_) (fun G2 hP => ?_)
        · obtain ⟨sG2, hG2⟩ := hP
          refine ⟨rfl, r_yes (iteT ?_)⟩
          walk_at "rd"
          refine r_addS ?_ ?_
          · show (wLast (abcd m) i)[i'].toArray.size + 1 ≤ sizeLine
            rw [List.size_toArray, hwl]
            exact Nat.le_trans (show i + 1 ≤ 1000 by omega) (by decide)
          · refine ⟨_, hG2, ?_, same_mut sG2 hD, ?_⟩
            · rw [List.length_map, List.length_map, List.length_take, ecs]
              exact Nat.lt_of_le_of_lt (Nat.min_le_right _ _) (by omega)
            · have hc' : (abcd m)[j]? = some c := by simpa [abcd] using hc
              rw [upd_same, List.take_add_one, hc', List.map_append, List.map_append]
              have ea := str_app (wLast (abcd m) i)[i'] [c]
              rw [show (⟨(wLast (abcd m) i)[i'].toArray⟩ : Str) ++ (⟨#[c]⟩ : Str) = ⟨((wLast (abcd m) i)[i'] ++ [c]).toArray⟩ from ea]
              rfl
        · obtain ⟨sG2, hG2⟩ := hP
          have hpl := wPart_len (cs := abcd m) (ws := wLast (abcd m) i) (i := i') (j := 0) (by omega) (by omega)
          have et : List.take ((⟨(List.take m [97, 98, 99, 100]).toArray⟩ : Str).cps.size) (abcd m) = abcd m := by
            show List.take (abcd m).toArray.size (abcd m) = abcd m
            rw [List.size_toArray, List.take_length]
          rw [et] at hG2
          refine r_cat (sG2 _ _ hG) hG2 ?_ (fun po2 hpo2 => ?_)
          · rw [List.length_map, List.length_map, List.length_map, ecs]
            omega
          · refine ⟨po2, _, rfl, sG.trans (sG2.trans (same_new hpo2)), ?_⟩
            rw [upd_same, ← wPart_turn hlt]
            have e2 : wPart (abcd m) (wLast (abcd m) i) i' (abcd m).length = wPart (abcd m) (wLast (abcd m) i) i' 0 ++ ext (abcd m) (wLast (abcd m) i)[i'] := by
              unfold wPart ext
              rw [List.getElem?_eq_getElem hlt]
              simp
            rw [e2, List.map_append]
            rfl
      · obtain ⟨po, y6, rfl, sG, hG⟩ := hP
        rw [List.length_map, wPart_end] at hG
        walk_at "rd"
        refine r_cat (sG _ _ hA) hG ?_ (fun p2 hp2 => ?_)
        · rw [List.length_map, List.length_map, wNext_len]
          omega
        · refine ⟨p2, po, _, _, _, rfl, sm.trans (sG.trans (same_new hp2)), sm.free (sG.free hp2), ?_, ?_⟩
          · rw [upd_same, ← List.map_append]
            rfl
          · rw [upd_ne (ne_of_none hG hp2)]
            exact hG
    · obtain ⟨pw, pl, y4, y5, y6, rfl, sm, hw, hA, hL⟩ := hP
      walk_at "rd"
      exact q H' pw sm hw hA
end

section
variable {P : Program} {w : World} {K : PySem.W.Frag} {mg : Str → Option Value} {base : Heap} {a : Ad}
def sp_law (K : PySem.W.Frag) : Sp := fun vs H Q _ => ∃ (a : Addr) (ns : List Int), vs = [.ref a] ∧ SqL K H a (ns.map V.int) ∧ ns.length ≤ 63 ∧ ∀ H', Q (.bl true) H'
theorem menu {m : Nat} (h1 : 1 ≤ m) (h4 : m ≤ 4) : ∃ d : Int, [V.int 10, V.int 10, V.int 7, V.int 6][m - 1]? = some (.int d) ∧ 0 < d ∧ ∀ n : Nat, (n : Int) < d → m ^ n ≤ 20000 ∧ n ≤ 400 := by
  match m, h1, h4 with
  | 1, _, _ => exact ⟨10, rfl, by decide, fun n h => ⟨by rw [Nat.one_pow]; decide, by omega⟩⟩
  | 2, _, _ => exact ⟨10, rfl, by decide, fun n h => ⟨Nat.le_trans (pow_mono (by decide) (show n ≤ 9 by omega)) (by decide), by omega⟩⟩
  | 3, _, _ => exact ⟨7, rfl, by decide, fun n h => ⟨Nat.le_trans (pow_mono (by decide) (show n ≤ 6 by omega)) (by decide), by omega⟩⟩
  | 4, _, _ => exact ⟨6, rfl, by decide, fun n h => ⟨Nat.le_trans (pow_mono (by decide) (show n ≤ 5 by omega)) (by decide), by omega⟩⟩
theorem ok_law (T : Txt K mg a) : FnOk P w K mg base CX0 4 a.f_law a.d_law ["script"] (sp_law K) := by
  have G_l_cell := ok_l_cell (P := P) (w := w) (base := base) T
  have G_l_same := ok_l_same (P := P) (w := w) (base := base) T
  have G_l_words := ok_l_words (P := P) (w := w) (base := base) T
  have G_words_upto := ok_words_upto (P := P) (w := w) (base := base) T
  refine T.F_law.ok sc_law (fun vs H Q E h => ?_) (fun cdv A outer s H vs Q E hr h => ?_)
  · obtain ⟨l, ns, rfl, _⟩ := h
    rfl
  · obtain ⟨l, ns, rfl, hS, _, q⟩ := h
    refine ⟨_, (pss_cons (ps_set (i := 1) sc_law.nd rfl (Or.inl rfl) (pe_op op_add pe_int (pe_op op_mod (pe_callTy call_int1' (by rfl) T.z_int (by decide +kernel) (pa_cons (pe_call (G_l_cell) (hr.mono (by first | decide | omega)) (by rfl) T.g_l_cell T.F_l_cell.kp T.b_l_cell .nil pass0 (pa_cons (pv 0) (pa_cons pe_int pa_nil))) pa_nil)) pe_int)))
      (pss_cons (ps_set (i := 2) sc_law.nd rfl (Or.inl rfl) (pe_op op_mod (pe_callTy call_int1' (by rfl) T.z_int (by decide +kernel) (pa_cons (pe_call (G_l_cell) (hr.mono (by first | decide | omega)) (by rfl) T.g_l_cell T.F_l_cell.kp T.b_l_cell .nil pass0 (pa_cons (pv 0) (pa_cons pe_int pa_nil))) pa_nil)) (pe_ix ix_list (pe_lst (pa_cons pe_int (pa_cons pe_int (pa_cons pe_int (pa_cons pe_int pa_nil))))) (pe_op op_sub (pv 1) pe_int) (fun _ _ => rfl))))
      (pss_cons (ps_if (PW.pt (pw_and (pt_cmpR op_eq (pv 1) pe_int (nomark _)) (pw_and1 (pt_cmpR op_eq (pe_op op_mod (pe_callTy call_int1' (by rfl) T.z_int (by decide +kernel) (pa_cons (pe_call (G_l_cell) (hr.mono (by first | decide | omega)) (by rfl) T.g_l_cell T.F_l_cell.kp T.b_l_cell .nil pass0 (pa_cons (pv 0) (pa_cons pe_int pa_nil))) pa_nil)) pe_int) pe_int (nomark _))))) (pss_one (ps_set (i := 2) sc_law.nd rfl (Or.inl rfl) (pe_op op_add pe_int (pe_op op_mod (pe_op op_fdiv (pe_callTy call_int1' (by rfl) T.z_int (by decide +kernel) (pa_cons (pe_call (G_l_cell) (hr.mono (by first | decide | omega)) (by rfl) T.g_l_cell T.F_l_cell.kp T.b_l_cell .nil pass0 (pa_cons (pv 0) (pa_cons pe_int pa_nil))) pa_nil)) pe_int) pe_int)))) pss_nil)
      (pss_cons (ps_set (i := 3) sc_law.nd rfl (Or.inl rfl) (pe_call (G_l_words) (hr.mono (by first | decide | omega)) (by rfl) T.g_l_words T.F_l_words.kp T.b_l_words .nil pass0 (pa_cons (pv 1) (pa_cons (pv 2) pa_nil))))
      (pss_cons (ps_set (i := 4) sc_law.nd rfl (Or.inl rfl) (pe_call (G_words_upto) (hr.mono (by first | decide | omega)) (by rfl) T.g_words_upto T.F_words_upto.kp T.b_words_upto .nil pass0 (pa_cons (pe_slice sl_str pe_str po_none (po_some (pv 1))) (pa_cons (pv 2) pa_nil))))
      (pss_cons (ps_if (pt_not (pt_val (pe_call (G_l_same) (hr.mono (by first | decide | omega)) (by rfl) T.g_l_same T.F_l_same.kp T.b_l_same .nil pass0 (pa_cons (pv 4) (pa_cons (pv 3) pa_nil))))) (pss_one (ps_ret pe_bl)) pss_nil)
      (pss_cons (ps_expr (pe_bm PySem.F.plainAttrs_list PySem.F.slot_list_append PySem.F.type_list_append mt_append (pv 4) (pa_cons pe_str pa_nil)))
      (pss_one (ps_ret (pe_call (G_l_same) (hr.mono (by first | decide | omega)) (by rfl) T.g_l_same T.F_l_same.kp T.b_l_same .nil pass0 (pa_cons (pe_call (G_words_upto) (hr.mono (by first | decide | omega)) (by rfl) T.g_words_upto T.F_words_upto.kp T.b_words_upto .nil pass0 (pa_cons (pe_slice sl_str pe_str po_none (po_some (pv 1))) (pa_cons (pv 2) pa_nil))) (pa_cons (pv 3) pa_nil)))))))))))), ?_⟩
    walk_at "rd"
    refine ⟨l, ns, 0, rfl, hS, by decide, ?_⟩
    walk_at "rd"
    obtain ⟨m, hm, h1, h4⟩ : ∃ m : Nat, 1 + cellV ns 0 % 4 = (m : Int) ∧ 1 ≤ m ∧ m ≤ 4 := by
      have := emod_rng (cellV ns 0) (b := 4) (by decide)
      exact ⟨(1 + cellV ns 0 % 4).toNat, by omega, by omega, by omega⟩
    rw [hm]
    refine ⟨l, ns, 1, rfl, hS, by decide, ?_⟩
    walk_at "rd"
    refine ⟨by decide, fun p hp => ?_⟩
    walk_at "rd"
    obtain ⟨d, gd, d0, hd⟩ := menu h1 h4
    refine r_ixL (SqL.of upd_same) (at_of (j := m - 1) (by omega) gd) ?_
    refine r_I d0 ?_
    have hS1 : SqL K (upd H p (.lst [V.int 10, V.int 10, V.int 7, V.int 6])) l (ns.map V.int) := (same_new hp).seq hS
    obtain ⟨n0, hn0, hlt⟩ : ∃ n : Nat, cellV ns 1 % d = (n : Int) ∧ (n : Int) < d := by
      have := emod_rng (cellV ns 1) d0
      exact ⟨(cellV ns 1 % d).toNat, by omega, by omega⟩
    rw [hn0]
    walk_at "rd"
    have key : ∃ n : Nat, m ^ n ≤ 20000 ∧ n ≤ 400 ∧ (n : Int) = (n0 : Int) := ⟨n0, (hd n0 hlt).1, (hd n0 hlt).2, rfl⟩
    have key2 : m = 1 → ∃ n : Nat, m ^ n ≤ 20000 ∧ n ≤ 400 ∧ (n : Int) = 200 + cellV ns 1 / 8 % 200 := fun e => by
      have := emod_rng (cellV ns 1 / 8) (b := 200) (by decide)
      refine ⟨(200 + cellV ns 1 / 8 % 200).toNat, ?_, by omega, by omega⟩
      rw [e, Nat.one_pow]
      decide
    have zl : (sizeLine : Nat) = 16777216 := by decide
    refine r_iteD (fun e1 => ?_) (fun e1 => ?_)
    · walk_at "rd"
      refine ⟨l, ns, 1, rfl, hS1, by decide, ?_⟩
      walk_at "rd"
      refine r_iteD (fun e2 => ?_) (fun e2 => ?_)
      · walk_at "rd"
        refine ⟨l, ns, 1, rfl, hS1, by decide, ?_⟩
        walk_at "rd"
        obtain ⟨n, hb, hn, en⟩ := key2 (by omega)
        rw [← en]
        clear key key2 en
        refine ⟨m, n, rfl, h1, h4, hb, hn, fun G pd sG hpd hG => ?_⟩
        walk_at "rd"
        refine r_slS (by decide +kernel) ?_
        walk_at "rd"
        rw [cut_abcd h4]
        have e4 : (abcd m).length = m := abcd_len h4
        have ee : List.take m [97, 98, 99, 100] = abcd m := rfl
        rw [ee]
        have hwa := wAll_len (abcd m) n (by omega) n (Nat.le_refl _)
        rw [e4] at hwa
        have hz : (wAll (abcd m) n).length ≤ 8020000 := by
          refine Nat.le_trans hwa (Nat.le_trans (Nat.mul_le_mul_left _ hb) ?_)
          omega
        have dp : ∀ {G : Hp} {p : Addr}, G p = some (.lst ((wAll (abcd m) n).map sV)) → Dp K G (.ref p) (.list ((wAll (abcd m) n).map fun w => PyData.str ⟨w.toArray⟩)) := fun h => .lst (SqL.of h) (dpAll_map (fun w => .str _) _)
        have ft : fits 3 (.list ((wAll (abcd m) n).map fun w => PyData.str ⟨w.toArray⟩)) := by
          refine ⟨by rw [List.length_map]; omega, fun d hd => ?_⟩
          obtain ⟨w, _, rfl⟩ := List.mem_map.mp hd
          exact True.intro
        refine ⟨abcd m, n, rfl, by omega, by rw [e4]; exact hb, hn, fun G2 pt sG2 hpt hG2 => ?_⟩
        walk_at "rd"
        refine ⟨_, _, _, rfl, dp hG2, dp (sG2 _ _ hG), ft, ?_⟩
        walk_at "rd"
        refine ⟨ty_l (SqL.of hG2), ?_⟩
        walk_at "rd"
        refine r_append hG2 (by rw [List.length_map]; omega) ?_
        walk_at "rd"
        refine r_slS (by decide +kernel) ?_
        walk_at "rd"
        rw [cut_abcd h4, ee]
        refine ⟨abcd m, n, rfl, by omega, by rw [e4]; exact hb, hn, fun G4 p4 sG4 _ hG4 => ?_⟩
        walk_at "rd"
        refine ⟨_, _, _, rfl, dp hG4, dp (sG4 _ _ ?_), ft, q _⟩
        rw [upd_ne (ne_of_none hG hpt)]
        exact sG2 _ _ hG
      · walk_at "rd"
        obtain ⟨n, hb, hn, en⟩ := key
        rw [← en]
        clear key2 en
        refine ⟨m, n, rfl, h1, h4, hb, hn, fun G pd sG hpd hG => ?_⟩
        walk_at "rd"
        refine r_slS (by decide +kernel) ?_
        walk_at "rd"
        rw [cut_abcd h4]
        have e4 : (abcd m).length = m := abcd_len h4
        have ee : List.take m [97, 98, 99, 100] = abcd m := rfl
        rw [ee]
        have hwa := wAll_len (abcd m) n (by omega) n (Nat.le_refl _)
        rw [e4] at hwa
        have hz : (wAll (abcd m) n).length ≤ 8020000 := by
          refine Nat.le_trans hwa (Nat.le_trans (Nat.mul_le_mul_left _ hb) ?_)
          omega
        have dp : ∀ {G : Hp} {p : Addr}, G p = some (.lst ((wAll (abcd m) n).map sV)) → Dp K G (.ref p) (.list ((wAll (abcd m) n).map fun w => PyData.str ⟨w.toArray⟩)) := fun h => .lst (SqL.of h) (dpAll_map (fun w => .str _) _)
        have ft : fits 3 (.list ((wAll (abcd m) n).map fun w => PyData.str ⟨w.toArray⟩)) := by
          refine ⟨by rw [List.length_map]; omega, fun d hd => ?_⟩
          obtain ⟨w, _, rfl⟩ := List.mem_map.mp hd
          exact True.intro
        refine ⟨abcd m, n, rfl, by omega, by rw [e4]; exact hb, hn, fun G2 pt sG2 hpt hG2 => ?_⟩
        walk_at "rd"
        refine ⟨_, _, _, rfl, dp hG2, dp (sG2 _ _ hG), ft, ?_⟩
        walk_at "rd"
        refine ⟨ty_l (SqL.of hG2), ?_⟩
        walk_at "rd"
        refine r_append hG2 (by rw [List.length_map]; omega) ?_
        walk_at "rd"
        refine r_slS (by decide +kernel) ?_
        walk_at "rd"
        rw [cut_abcd h4, ee]
        refine ⟨abcd m, n, rfl, by omega, by rw [e4]; exact hb, hn, fun G4 p4 sG4 _ hG4 => ?_⟩
        walk_at "rd"
        refine ⟨_, _, _, rfl, dp hG4, dp (sG4 _ _ ?_), ft, q _⟩
        rw [upd_ne (ne_of_none hG hpt)]
        exact sG2 _ _ hG
    · walk_at "rd"
      obtain ⟨n, hb, hn, en⟩ := key
      rw [← en]
      clear key2 en
      refine ⟨m, n, rfl, h1, h4, hb, hn, fun G pd sG hpd hG => ?_⟩
      walk_at "rd"
      refine r_slS (by decide +kernel) ?_
      walk_at "rd"
      rw [cut_abcd h4]
      have e4 : (abcd m).length = m := abcd_len h4
      have ee : List.take m [97, 98, 99, 100] = abcd m := rfl
      rw [ee]
      have hwa := wAll_len (abcd m) n (by omega) n (Nat.le_refl _)
      rw [e4] at hwa
      have hz : (wAll (abcd m) n).length ≤ 8020000 := by
        refine Nat.le_trans hwa (Nat.le_trans (Nat.mul_le_mul_left _ hb) ?_)
        omega
      have dp : ∀ {G : Hp} {p : Addr}, G p = some (.lst ((wAll (abcd m) n).map sV)) → Dp K G (.ref p) (.list ((wAll (abcd m) n).map fun w => PyData.str ⟨w.toArray⟩)) := fun h => .lst (SqL.of h) (dpAll_map (fun w => .str _) _)
      have ft : fits 3 (.list ((wAll (abcd m) n).map fun w => PyData.str ⟨w.toArray⟩)) := by
        refine ⟨by rw [List.length_map]; omega, fun d hd => ?_⟩
        obtain ⟨w, _, rfl⟩ := List.mem_map.mp hd
        exact True.intro
      refine ⟨abcd m, n, rfl, by omega, by rw [e4]; exact hb, hn, fun G2 pt sG2 hpt hG2 => ?_⟩
      walk_at "rd"
      refine ⟨_, _, _, rfl, dp hG2, dp (sG2 _ _ hG), ft, ?_⟩
      walk_at "rd"
      refine ⟨ty_l (SqL.of hG2), ?_⟩
      walk_at "rd"
      refine r_append hG2 (by rw [List.length_map]; omega) ?_
      walk_at "rd"
      refine r_slS (by decide +kernel) ?_
      walk_at "rd"
      rw [cut_abcd h4, ee]
      refine ⟨abcd m, n, rfl, by omega, by rw [e4]; exact hb, hn, fun G4 p4 sG4 _ hG4 => ?_⟩
      walk_at "rd"
      refine ⟨_, _, _, rfl, dp hG4, dp (sG4 _ _ ?_), ft, q _⟩
      rw [upd_ne (ne_of_none hG hpt)]
      exact sG2 _ _ hG
end

theorem all_mk {l : PySem.W.OpenLaw} {w : World} {K : PySem.W.Frag} {h : Heap} {mg : Str → Option Value} {fa : Addr} (X : K.In h) (G : h.Ns mainGlobals mg) (hfa : mg "law" = some (.ref fa))
    {f0 : Addr} {od0 an0 : Option Addr} {sl0 : Array (Option Value)} {oc0 kV0 dc0 pm0 cd0 ct0 : Value}
    (a0 : PySem.W.nsIn K mainGlobals "_law_cell" = some (some (.ref f0))) (l0 : K.lookup f0 = some ⟨oc0, od0, .func (PySem.W.fnOf "_law_cell" "_law_cell" (defArgs s_l_cell) (defBody s_l_cell) (defScope s_l_cell) .none kV0 dc0 pm0 an0 cd0 ct0), sl0⟩) (c0 : PySem.W.codeIn K cd0 "_law_cell" = true) (k0 : PySem.W.keepIn K (.ref f0) = true)
    {f1 : Addr} {od1 an1 : Option Addr} {sl1 : Array (Option Value)} {oc1 kV1 dc1 pm1 cd1 ct1 : Value}
    (a1 : PySem.W.nsIn K mainGlobals "_law_same" = some (some (.ref f1))) (l1 : K.lookup f1 = some ⟨oc1, od1, .func (PySem.W.fnOf "_law_same" "_law_same" (defArgs s_l_same) (defBody s_l_same) (defScope s_l_same) .none kV1 dc1 pm1 an1 cd1 ct1), sl1⟩) (c1 : PySem.W.codeIn K cd1 "_law_same" = true) (k1 : PySem.W.keepIn K (.ref f1) = true)
    {f2 : Addr} {od2 an2 : Option Addr} {sl2 : Array (Option Value)} {oc2 kV2 dc2 pm2 cd2 ct2 : Value}
    (a2 : PySem.W.nsIn K mainGlobals "words_upto" = some (some (.ref f2))) (l2 : K.lookup f2 = some ⟨oc2, od2, .func (PySem.W.fnOf "words_upto" "words_upto" (defArgs s_words_upto) (defBody s_words_upto) (defScope s_words_upto) .none kV2 dc2 pm2 an2 cd2 ct2), sl2⟩) (c2 : PySem.W.codeIn K cd2 "words_upto" = true) (k2 : PySem.W.keepIn K (.ref f2) = true)
    {f3 : Addr} {od3 an3 : Option Addr} {sl3 : Array (Option Value)} {oc3 kV3 dc3 pm3 cd3 ct3 : Value}
    (a3 : PySem.W.nsIn K mainGlobals "_law_words" = some (some (.ref f3))) (l3 : K.lookup f3 = some ⟨oc3, od3, .func (PySem.W.fnOf "_law_words" "_law_words" (defArgs s_l_words) (defBody s_l_words) (defScope s_l_words) .none kV3 dc3 pm3 an3 cd3 ct3), sl3⟩) (c3 : PySem.W.codeIn K cd3 "_law_words" = true) (k3 : PySem.W.keepIn K (.ref f3) = true)
    {f4 : Addr} {od4 an4 : Option Addr} {sl4 : Array (Option Value)} {oc4 kV4 dc4 pm4 cd4 ct4 : Value}
    (a4 : PySem.W.nsIn K mainGlobals "law" = some (some (.ref f4))) (l4 : K.lookup f4 = some ⟨oc4, od4, .func (PySem.W.fnOf "law" "law" (defArgs s_law) (defBody s_law) (defScope s_law) .none kV4 dc4 pm4 an4 cd4 ct4), sl4⟩) (c4 : PySem.W.codeIn K cd4 "law" = true) (k4 : PySem.W.keepIn K (.ref f4) = true)
    (z_bool : PySem.W.nsIn K mainGlobals "bool" = some none)
    (z_int : PySem.W.nsIn K mainGlobals "int" = some none)
    (z_isinstance : PySem.W.nsIn K mainGlobals "isinstance" = some none)
    (z_len : PySem.W.nsIn K mainGlobals "len" = some none)
    (z_list : PySem.W.nsIn K mainGlobals "list" = some none)
    (z_range : PySem.W.nsIn K mainGlobals "range" = some none)
    (z_str : PySem.W.nsIn K mainGlobals "str" = some none)
    (z_tuple : PySem.W.nsIn K mainGlobals "tuple" = some none)
    : ∃ fd : FuncData, (∀ (s : Shared) (v : Value), BindsTo s fd ⟨[v], []⟩ [("script", v)]) ∧ ∀ base : Heap, K.In base → base.Ns mainGlobals mg → FnOk l.prog w K mg base CX0 4 fa fd ["script"] (sp_law K) := by
  have e := hfa.symm.trans (PySem.W.mg_of X G a4)
  cases e
  have F0 := fun_mk (st := s_l_cell) l0 c0 k0
  have b0 := F0.binds (ps := ["script", "k"]) fun _ _ _ _ _ _ us hl => match us, hl with | [_, _], _ => rfl
  have F1 := fun_mk (st := s_l_same) l1 c1 k1
  have b1 := F1.binds (ps := ["actual", "due"]) fun _ _ _ _ _ _ us hl => match us, hl with | [_, _], _ => rfl
  have F2 := fun_mk (st := s_words_upto) l2 c2 k2
  have b2 := F2.binds (ps := ["letters", "length"]) fun _ _ _ _ _ _ us hl => match us, hl with | [_, _], _ => rfl
  have F3 := fun_mk (st := s_l_words) l3 c3 k3
  have b3 := F3.binds (ps := ["letters", "length"]) fun _ _ _ _ _ _ us hl => match us, hl with | [_, _], _ => rfl
  have F4 := fun_mk (st := s_law) l4 c4 k4
  have b4 := F4.binds (ps := ["script"]) fun _ _ _ _ _ _ us hl => match us, hl with | [_], _ => rfl
  have T : Txt K mg ⟨f0, PySem.W.fnOf "_law_cell" "_law_cell" (defArgs s_l_cell) (defBody s_l_cell) (defScope s_l_cell) .none kV0 dc0 pm0 an0 cd0 ct0, f1, PySem.W.fnOf "_law_same" "_law_same" (defArgs s_l_same) (defBody s_l_same) (defScope s_l_same) .none kV1 dc1 pm1 an1 cd1 ct1, f2, PySem.W.fnOf "words_upto" "words_upto" (defArgs s_words_upto) (defBody s_words_upto) (defScope s_words_upto) .none kV2 dc2 pm2 an2 cd2 ct2, f3, PySem.W.fnOf "_law_words" "_law_words" (defArgs s_l_words) (defBody s_l_words) (defScope s_l_words) .none kV3 dc3 pm3 an3 cd3 ct3, fa, PySem.W.fnOf "law" "law" (defArgs s_law) (defBody s_law) (defScope s_law) .none kV4 dc4 pm4 an4 cd4 ct4⟩ := ⟨F0, b0, PySem.W.mg_of X G a0, F1, b1, PySem.W.mg_of X G a1, F2, b2, PySem.W.mg_of X G a2, F3, b3, PySem.W.mg_of X G a3, F4, b4, PySem.W.mg_of X G a4, PySem.W.mg_none_of X G z_bool, PySem.W.mg_none_of X G z_int, PySem.W.mg_none_of X G z_isinstance, PySem.W.mg_none_of X G z_len, PySem.W.mg_none_of X G z_list, PySem.W.mg_none_of X G z_range, PySem.W.mg_none_of X G z_str, PySem.W.mg_none_of X G z_tuple⟩
  exact ⟨_, fun s v => .of_eq rfl, fun base _ _ => ok_law T⟩
end L02
open PySem PySem.W PyProof.Rows
set_option maxHeartbeats 0 in
theorem PySem.Challenge.cw_turnsandthrows_k02_words_upto_holds : PySem.Challenge.rw_turnsandthrows_k02_words_upto.Holds := by
  w_on; o_law; k_head; (case hw => w_witness2)
  k_fill
  refine L2.walk_of (l := PySem.Challenge.rw_turnsandthrows_k02_words_upto) (n := 63) (k := 4) (x := "script") (CX := fun _ => L2.CX0) (sp := fun w => L02.sp_law _) rfl (by decide) rfl ⟨rfl, by decide, by decide⟩ (fun w h Y => PySem.W.kIn_of Y) ?F (fun _ _ a ns hl _ hS => ⟨a, ns, rfl, hS, hl, fun _ => rfl⟩) (fun _ _ _ _ _ h => h)
  case F =>
    intro w mg fa h KX G hmg
    refine' L02.all_mk KX G hmg ?a0 ?l0 ?c0 ?k0 ?a1 ?l1 ?c1 ?k1 ?a2 ?l2 ?c2 ?k2 ?a3 ?l3 ?c3 ?k3 ?a4 ?l4 ?c4 ?k4 ?z_bool ?z_int ?z_isinstance ?z_len ?z_list ?z_range ?z_str ?z_tuple
    (case a0 => k_is); (case l0 => k_is); (case c0 => k_is); (case k0 => k_is); (case a1 => k_is); (case l1 => k_is); (case c1 => k_is); (case k1 => k_is); (case a2 => k_is); (case l2 => k_is); (case c2 => k_is); (case k2 => k_is); (case a3 => k_is); (case l3 => k_is); (case c3 => k_is); (case k3 => k_is); (case a4 => k_is); (case l4 => k_is); (case c4 => k_is); (case k4 => k_is); (case z_bool => k_is); (case z_int => k_is); (case z_isinstance => k_is); (case z_len => k_is); (case z_list => k_is); (case z_range => k_is); (case z_str => k_is); (case z_tuple => k_is)

