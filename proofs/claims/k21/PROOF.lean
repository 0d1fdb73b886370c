import PyProof.Rows.All
import Wide.All
import OpenK.AllK
import Wide.FinOn
import HandS.ForMost
import HandS.IsInst
import HandS.SetFor
import HandS.Star
import HandS.Style
import HandS.Conv
import PyProof.StrBlock2
import HandS.Replace
import PySem.Challenge.RW_turnsandthrows_k21_is_ring
set_option Elab.async false
set_option linter.all false
set_option maxRecDepth 100000
set_option maxHeartbeats 8000000
set_option Elab.async false
set_option linter.all false
set_option maxRecDepth 100000
namespace G
open PySem PySem.Spec PyProof.Rows L2

/-! ### readings, step by step -/
section
variable {σ : L2.St} {H : Hp} {Q : VK} {QB : Bool → Hp → Prop} {QA : List V → Hp → Prop} {D : Ends} {K : PySem.W.Frag} {te ta tb : TE} {t u : TS} {c c2 : TT} {i : Nat} {v x y : V}
theorem r_seq (h : t { D with nx := u D } σ H) : tSeq t u D σ H := h
theorem r_set (h : te σ H fun x H1 => D.nx (σ.set i (some x)) H1) : tAsg te (gName i) D σ H := h
theorem r_asg {g : TG} (h : te σ H fun x H1 => g x σ H1 D.nx) : tAsg te g D σ H := h
theorem r_drop (h : te σ H fun _ H1 => D.nx σ H1) : tDrop te D σ H := h
theorem r_ret (h : te σ H D.rt) : tRet te D σ H := h
theorem r_retN (h : D.rt .non H) : tRetN D σ H := h
theorem r_next (h : D.nx σ H) : tNext D σ H := h
theorem r_break (h : D.bk σ H) : tBreak D σ H := h
theorem r_cont (h : D.ct σ H) : tCont D σ H := h
theorem r_yes (h : QB true H) : tYes σ H QB := h
theorem r_if (h : c σ H fun b H1 => if b = true then t D σ H1 else u D σ H1) : tIfS c t u D σ H := h
theorem r_ifx (h : c σ H fun d H1 => if d = true then ta σ H1 Q else tb σ H1 Q) : tIf c ta tb σ H Q := h
theorem r_var (h : σ[i]? = some (some v)) (q : Q v H) : tVar i σ H Q := ⟨v, h, q⟩
theorem r_c (q : Q v H) : tC v σ H Q := q
theorem r_op {r : R2} (h : ta σ H fun x H1 => tb σ H1 fun y H2 => r x y H2 Q) : tOp r ta tb σ H Q := h
theorem r_un {r : V → Hp → VK → Prop} (h : ta σ H fun x H1 => r x H1 Q) : tUn r ta σ H Q := h
theorem r_cb {r : List V → Hp → VK → Prop} {t : TA} (h : t σ H fun vs H1 => r vs H1 Q) : tCB r t σ H Q := h
theorem r_cons {tr : TA} (h : te σ H fun x H1 => tr σ H1 fun xs H2 => QA (x :: xs) H2) : tCons te tr σ H QA := h
theorem r_nil (h : QA [] H) : tNil σ H QA := h
theorem r_call {sp : Sp} {dvs : List V} {E : XK} {t : TA} (h : t σ H fun vs H1 => sp (vs ++ dvs) H1 Q E) : tCall sp dvs E t σ H Q := h
theorem r_test (h : te σ H fun x H' => ∃ k, x = .bl k ∧ QB k H') : tTest te σ H QB := h
theorem r_tb (h : te σ H fun x H' => ∃ k, x = .bl k ∧ QB k H') : tB te σ H QB := h
theorem r_bl {b : Bool} {C : Bool → Prop} (h : C b) : ∃ k, V.bl b = .bl k ∧ C k := ⟨b, rfl, h⟩
theorem r_and (h : c σ H fun b H1 => if b = true then c2 σ H1 QB else QB false H1) : tAnd c c2 σ H QB := h
theorem r_or (h : c σ H fun b H1 => if b = true then QB true H1 else c2 σ H1 QB) : tOr c c2 σ H QB := h
theorem r_not (h : c σ H fun b H1 => QB (!b) H1) : tNot c σ H QB := h
theorem r_andV (h : ta σ H fun x H1 => ∃ c, x = .bl c ∧ if c = true then tb σ H1 Q else Q (.bl false) H1) : tAndV ta tb σ H Q := h
theorem r_orV (h : ta σ H fun x H1 => ∃ c, x = .bl c ∧ if c = true then Q (.bl true) H1 else tb σ H1 Q) : tOrV ta tb σ H Q := h
theorem r_notV (h : ta σ H fun x H1 => ∃ c, x = .bl c ∧ Q (.bl (!c)) H1) : tNotV ta σ H Q := h
theorem r_tup {t : TA} (h : t σ H fun xs H1 => xs.length ≤ sizeLine ∧ ∀ p, H1 p = none → Q (.ref p) (upd H1 p (.tup xs))) : tTup t σ H Q := h
theorem r_lst {t : TA} (h : t σ H fun xs H1 => xs.length ≤ sizeLine ∧ ∀ p, H1 p = none → Q (.ref p) (upd H1 p (.lst xs))) : tLst t σ H Q := h
theorem r_I0 {g : Int → Int → V} {i j : Int} (h : Q (g i j) H) : rI0 g (.int i) (.int j) H Q := ⟨i, j, rfl, rfl, h⟩
theorem r_I {C : Int → Int → Prop} {g : Int → Int → V} {i j : Int} (hc : C i j) (h : Q (g i j) H) : rI C g (.int i) (.int j) H Q := ⟨i, j, rfl, rfl, hc, h⟩
theorem r_U {g : Int → V} {i : Int} (h : Q (g i) H) : rU g (.int i) H Q := ⟨i, rfl, h⟩
theorem r_eqI {i j : Int} (h : Q (.bl (decide (i = j))) H) : rEq (.int i) (.int j) H Q := by
  refine ⟨rfl, ?_⟩
  have e : decide (V.int i = V.int j) = decide (i = j) := by simp
  rw [e]; exact h
theorem r_neI {i j : Int} (h : Q (.bl (!decide (i = j))) H) : rNe (.int i) (.int j) H Q := by
  refine ⟨rfl, ?_⟩
  have e : decide (V.int i = V.int j) = decide (i = j) := by simp
  rw [e]; exact h
theorem r_eqS {i j : Str} (h : Q (.bl (decide (i = j))) H) : rEq (.str i) (.str j) H Q := by
  refine ⟨rfl, ?_⟩
  have e : decide (V.str i = V.str j) = decide (i = j) := by simp
  rw [e]; exact h
theorem r_neS {i j : Str} (h : Q (.bl (!decide (i = j))) H) : rNe (.str i) (.str j) H Q := by
  refine ⟨rfl, ?_⟩
  have e : decide (V.str i = V.str j) = decide (i = j) := by simp
  rw [e]; exact h
theorem r_eqB {i j : Bool} (h : Q (.bl (decide (i = j))) H) : rEq (.bl i) (.bl j) H Q := by
  refine ⟨rfl, ?_⟩
  have e : decide (V.bl i = V.bl j) = decide (i = j) := by simp
  rw [e]; exact h
theorem r_neB {i j : Bool} (h : Q (.bl (!decide (i = j))) H) : rNe (.bl i) (.bl j) H Q := by
  refine ⟨rfl, ?_⟩
  have e : decide (V.bl i = V.bl j) = decide (i = j) := by simp
  rw [e]; exact h
theorem r_iteD {p A B : Prop} [Decidable p] (h1 : p → A) (h2 : ¬ p → B) : if decide p = true then A else B := ite2 (fun e => h1 (of_decide_eq_true e)) fun e => h2 fun q => e (decide_eq_true q)
theorem r_iteN {p A B : Prop} [Decidable p] (h1 : ¬ p → A) (h2 : p → B) : if (!decide p) = true then A else B := by
  by_cases h : p
  · rw [decide_eq_true h]; exact iteF (h2 h)
  · rw [decide_eq_false h]; exact iteT (h1 h)
theorem r_ixL {p : Addr} {xs : List V} {i : Int} (h : SqL K H p xs) (a : atI xs i = some v) (q : Q v H) : rIxL K (.ref p) (.int i) H Q := ⟨p, xs, i, v, rfl, rfl, h, a, q⟩
theorem r_ixT {p : Addr} {xs : List V} {i : Int} (h : SqT K H p xs) (a : atI xs i = some v) (q : Q v H) : rIxT K (.ref p) (.int i) H Q := ⟨p, xs, i, v, rfl, rfl, h, a, q⟩
theorem r_ixS {z : Str} {i : Int} {c : Nat} (hz : z.length ≤ sizeLine) (a : atI z.cps.toList i = some c) (q : Q (.str ⟨#[c]⟩) H) : rIxS (.str z) (.int i) H Q := ⟨z, i, c, rfl, rfl, hz, a, q⟩
/-! named readings for what the layer says by a bare fun -/
def rInt1 : List V → Hp → VK → Prop := fun xs H Q => (∃ i, xs = [.int i] ∧ Q (.int i) H) ∨ ∃ k, xs = [.bl k] ∧ Q (.int (if k then 1 else 0)) H
theorem call_int1' {X : Cx} : CallR X (.type "int") rInt1 := call_int1
theorem r_int1 {i : Int} (q : Q (.int i) H) : rInt1 [.int i] H Q := .inl ⟨i, rfl, q⟩
def rLenQ (K : PySem.W.Frag) : List V → Hp → VK → Prop := fun xs H Q => ∃ p ys, xs = [.ref p] ∧ (SqL K H p ys ∨ SqT K H p ys) ∧ Q (.int ys.length) H
theorem call_lenQ {X : Cx} : CallR X (.builtin "len") (rLenQ X.K) := call_len_seq
theorem r_lenL {p : Addr} {ys : List V} (h : SqL K H p ys) (q : Q (.int ys.length) H) : rLenQ K [.ref p] H Q := ⟨p, ys, rfl, .inl h, q⟩
theorem r_lenT {p : Addr} {ys : List V} (h : SqT K H p ys) (q : Q (.int ys.length) H) : rLenQ K [.ref p] H Q := ⟨p, ys, rfl, .inr h, q⟩
def rLenS1 : List V → Hp → VK → Prop := fun xs H Q => ∃ z, xs = [.str z] ∧ z.length ≤ sizeLine ∧ Q (.int z.length) H
theorem call_lenS1 {X : Cx} : CallR X (.builtin "len") rLenS1 := call_len_str
theorem r_lenS {z : Str} (h : z.length ≤ sizeLine) (q : Q (.int z.length) H) : rLenS1 [.str z] H Q := ⟨z, rfl, h, q⟩
def rAddS1 : R2 := fun x y H Q => ∃ i j, x = .str i ∧ y = .str j ∧ i.length + j.length ≤ sizeLine ∧ Q (.str (i ++ j)) H
theorem op_addS {X : Cx} : OpR X (binaryOp .Add) rAddS1 := op_add_str
theorem r_addS {i j : Str} (h : i.length + j.length ≤ sizeLine) (q : Q (.str (i ++ j)) H) : rAddS1 (.str i) (.str j) H Q := ⟨i, j, rfl, rfl, h, q⟩
def rIsN1 : R2 := fun x y H Q => y = .non ∧ Q (.bl (decide (x = .non))) H
def rNotN1 : R2 := fun x y H Q => y = .non ∧ Q (.bl (!decide (x = .non))) H
theorem op_isN1 {X : Cx} : OpR X (compareOp .Is) rIsN1 := op_isN
theorem op_notN1 {X : Cx} : OpR X (compareOp .IsNot) rNotN1 := op_notN
theorem r_isN (q : Q (.bl (decide (x = .non))) H) : rIsN1 x .non H Q := ⟨rfl, q⟩
theorem r_notN (q : Q (.bl (!decide (x = .non))) H) : rNotN1 x .non H Q := ⟨rfl, q⟩
def rTupOf (K : PySem.W.Frag) : List V → Hp → VK → Prop := fun xs H Q => ∃ p ys, xs = [.ref p] ∧ ((SqL K H p ys ∧ ∀ l, H l = none → Q (.ref l) (upd H l (.tup ys))) ∨ (SqT K H p ys ∧ Q (.ref p) H))
theorem call_tupOf {X : Cx} : CallR X (.type "tuple") (rTupOf X.K) := call_tuple_of
theorem r_tupL {p : Addr} {ys : List V} (h : SqL K H p ys) (q : ∀ l, H l = none → Q (.ref l) (upd H l (.tup ys))) : rTupOf K [.ref p] H Q := ⟨p, ys, rfl, .inl ⟨h, q⟩⟩
def rLstOf (K : PySem.W.Frag) : List V → Hp → VK → Prop := fun xs H Q => ∃ p ys, xs = [.ref p] ∧ (SqL K H p ys ∨ SqT K H p ys) ∧ ∀ l, H l = none → Q (.ref l) (upd H l (.lst ys))
theorem call_lstOf {X : Cx} : CallR X (.type "list") (rLstOf X.K) := call_list_of
theorem r_lstL {p : Addr} {ys : List V} (h : SqL K H p ys) (q : ∀ l, H l = none → Q (.ref l) (upd H l (.lst ys))) : rLstOf K [.ref p] H Q := ⟨p, ys, rfl, .inl h, q⟩
theorem r_lstT {p : Addr} {ys : List V} (h : SqT K H p ys) (q : ∀ l, H l = none → Q (.ref l) (upd H l (.lst ys))) : rLstOf K [.ref p] H Q := ⟨p, ys, rfl, .inr h, q⟩
theorem r_cat {l b : Addr} {xs zs : List V} (h1 : H l = some (.lst xs)) (h2 : H b = some (.lst zs)) (hl : xs.length + zs.length ≤ sizeLine) (q : ∀ p, H p = none → Q (.ref p) (upd H p (.lst (xs ++ zs)))) : rCat (.ref l) (.ref b) H Q := ⟨l, b, xs, zs, rfl, rfl, h1, h2, hl, q⟩
theorem r_append {l : Addr} {xs : List V} (h1 : H l = some (.lst xs)) (hl : xs.length < sizeLine) (q : Q .non (upd H l (.lst (xs ++ [y])))) : rAppend (.ref l) [y] H Q := ⟨l, xs, y, rfl, rfl, h1, hl, q⟩
theorem r_extend {l b : Addr} {xs zs : List V} (h1 : H l = some (.lst xs)) (h2 : H b = some (.lst zs)) (hl : xs.length + zs.length ≤ sizeLine) (q : Q .non (upd H l (.lst (xs ++ zs)))) : rExtend (.ref l) [.ref b] H Q := ⟨l, b, xs, zs, rfl, rfl, h1, h2, hl, q⟩
theorem r_bmL {r : V → List V → Hp → VK → Prop} {to : TE} {t : TA} (h : to σ H fun x H1 => tyV K "list" x H1 ∧ t σ H1 fun xs H2 => r x xs H2 Q) : tBM K "list" r to t σ H Q := h
theorem ty_l {p : Addr} {xs : List V} (h : SqL K H p xs) : tyV K "list" (.ref p) H := .inl ⟨rfl, _, h⟩
theorem r_slS {z : Str} {lo hi : Option Int} (h : z.length ≤ sizeLine) (q : Q (.str (cutS z lo hi)) H) : rSlS (.str z) lo hi H Q := ⟨z, rfl, h, q⟩
theorem r_slL {p : Addr} {xs : List V} {lo hi : Option Int} (h : SqL K H p xs) (q : ∀ l, H l = none → Q (.ref l) (upd H l (.lst (cutV xs lo hi)))) : rSlL K (.ref p) lo hi H Q := ⟨p, xs, rfl, h, q⟩
theorem r_sl {r : V → Option Int → Option Int → Hp → VK → Prop} {tl th : TO} (h : te σ H fun x H1 => tl σ H1 fun l H2 => th σ H2 fun u H3 => r x l u H3 Q) : tSl r te tl th σ H Q := h
theorem r_noPart {Qo : Option Int → Hp → Prop} (q : Qo none H) : tNoPart σ H Qo := q
theorem r_part {Qo : Option Int → Hp → Prop} (h : te σ H fun x H1 => ∃ i, x = .int i ∧ Qo (some i) H1) : tPart te σ H Qo := h
theorem r_pint {j : Int} {C : Int → Prop} (h : C j) : ∃ i, V.int j = .int i ∧ C i := ⟨j, rfl, h⟩
theorem r_isi {t u : Value} {b : Bool} {cl : V} (k : ClsV cl u) (ty : TyX K H x t) (e : PySem.W.kitOne K t u = some b) (q : Q (.bl b) H) : rIsi K [x, cl] H Q := ⟨x, cl, t, u, b, rfl, k, ty, e, q⟩
theorem r_rng1 {ta : TA} {R : It → Hp → Prop} (h : ta σ H fun vs H1 => ∃ j : Int, vs = [.int j] ∧ -(2 ^ 62) ≤ j ∧ j < 2 ^ 62 ∧ R (Itr 0 j.toNat) H1) : iRng1 ta σ H R := h
theorem r_rng1' {j : Int} {C : Int → Prop} (h1 : -(2 ^ 62) ≤ j) (h2 : j < 2 ^ 62) (h : C j) : ∃ j' : Int, [V.int j] = [.int j'] ∧ -(2 ^ 62) ≤ j' ∧ j' < 2 ^ 62 ∧ C j' := ⟨j, rfl, h1, h2, h⟩
end

/-! ### what was tracked stands -/
theorem same_t {K : PySem.W.Frag} {H H' : Hp} {a : Addr} {xs : List V} (e : Same H H') (h : SqT K H a xs) : SqT K H' a xs := by
  rcases h with (h | ⟨o, h⟩) | h
  · exact .inl (.inl (e _ _ h))
  · exact .inl (.inr ⟨o, e _ _ h⟩)
  · exact .inr h
theorem same_new {H : Hp} {p : Addr} {o : HO} (h : H p = none) : Same H (upd H p o) := fun b x e => by
  rw [upd_ne (ne_of_none e h)]
  exact e
/-- an object that H did not know was changed -/
theorem same_mut {H H' : Hp} {p : Addr} {o : HO} (e : Same H H') (h : H p = none) : Same H (upd H' p o) := fun a u ha => by
  rw [upd_ne (ne_of_none ha h)]
  exact e a u ha
mutual
theorem dp_same {K : PySem.W.Frag} {H H' : Hp} (e : Same H H') : ∀ (d : PyData) (v : V), Dp K H v d → Dp K H' v d
  | .none, _, h => by cases h; exact .non
  | .bool b, _, h => by cases h; exact .bl b
  | .int i, _, h => by cases h; exact .int i
  | .str x, _, h => by cases h; exact .str x
  | .list ds, _, h => by
    cases h with
    | lst hs ha => exact .lst (e.seq hs) (dpAll_same e ds _ ha)
  | .tuple ds, _, h => by
    cases h with
    | tup hs ha => exact .tup (same_t e hs) (dpAll_same e ds _ ha)
  | .dict _, _, h => by cases h
theorem dpAll_same {K : PySem.W.Frag} {H H' : Hp} (e : Same H H') : ∀ (ds : List PyData) (vs : List V), DpAll K H vs ds → DpAll K H' vs ds
  | [], _, h => by cases h; exact .nil
  | d :: ds, _, h => by
    cases h with
    | cons h1 h2 => exact .cons (dp_same e d _ h1) (dpAll_same e ds _ h2)
end
theorem dpAll_len {K : PySem.W.Frag} {H : Hp} : ∀ {vs : List V} {ds : List PyData}, DpAll K H vs ds → vs.length = ds.length
  | _, _, .nil => rfl
  | _, _, .cons _ t => congrArg (· + 1) (dpAll_len t)
theorem dpAll_get {K : PySem.W.Frag} {H : Hp} : ∀ {vs : List V} {ds : List PyData} {i : Nat} {d : PyData}, DpAll K H vs ds → ds[i]? = some d → ∃ v, vs[i]? = some v ∧ Dp K H v d
  | _, _, _, _, .nil, e => by simp at e
  | _, _, 0, _, .cons h _, e => by simp at e; subst e; exact ⟨_, rfl, h⟩
  | _, _, i + 1, d, .cons _ t, e => by
    obtain ⟨v, h1, h2⟩ := dpAll_get (i := i) (d := d) t (by simpa using e)
    exact ⟨v, by simpa using h1, h2⟩
theorem dpAll_map {K : PySem.W.Frag} {H : Hp} {α : Type} {f : α → V} {g : α → PyData} (h : ∀ x, Dp K H (f x) (g x)) : ∀ xs : List α, DpAll K H (xs.map f) (xs.map g)
  | [] => .nil
  | x :: xs => .cons (h x) (dpAll_map h xs)
/-- the type of what bears data -/
theorem tyx_sqL {K : PySem.W.Frag} {H : Hp} {a : Addr} {xs : List V} (h : SqL K H a xs) : TyX K H (.ref a) (.type "list") := by
  rcases h with (h | ⟨o, h⟩) | ⟨o, its, n, hk, hc, _⟩
  · exact .base (.lst h)
  · exact .base (.frz h)
  · exact .kList hk hc
theorem tyx_sqT {K : PySem.W.Frag} {H : Hp} {a : Addr} {xs : List V} (h : SqT K H a xs) : TyX K H (.ref a) (.type "tuple") := by
  rcases h with (h | ⟨o, h⟩) | ⟨o, its, n, hk, hc, _⟩
  · exact .base (.tup h)
  · exact .fTuple h
  · exact .kTuple hk hc

/-! ### walks over a text's signs -/
theorem for_str {x : Str} {g : TG} {tb : TS} {D : Ends} {σ : L2.St} {H : Hp} (Pv : Nat → L2.St → Hp → Prop) (h0 : Pv 0 σ H)
    (hs : ∀ i c σ H, x.cps.toList[i]? = some c → Pv i σ H → g (.str ⟨#[c]⟩) σ H fun σ2 H2 => tb { D with nx := Pv (i + 1), ct := Pv (i + 1), bk := D.nx } σ2 H2) (hd : ∀ σ H, Pv x.cps.size σ H → D.nx σ H) :
    ∃ W : Nat → Nat → L2.St → Hp → Prop, (∃ m, W 0 m σ H) ∧ ∀ i m σ H, W i m σ H →
      ((Its x).stop i H ∧ D.nx σ H) ∨ ((Its x).go i H ∧ ∃ N : L2.St → Hp → Prop, (∀ σ' H', N σ' H' → ∃ m', m' < m ∧ W (i + 1) m' σ' H') ∧ ∀ x' H', (Its x).yld i H x' H' → g x' σ H' fun σ2 H2 => tb { D with nx := N, ct := N, bk := D.nx } σ2 H2) := by
  refine ⟨fun i m σ H => m = x.cps.size - i ∧ i ≤ x.cps.size ∧ Pv i σ H, ⟨x.cps.size, by simp, Nat.zero_le _, h0⟩, ?_⟩
  rintro i m σ H ⟨rfl, hi, p⟩
  by_cases hlt : i < x.cps.size
  · refine .inr ⟨hlt, Pv (i + 1), fun σ' H' p' => ⟨x.cps.size - (i + 1), by omega, rfl, hlt, p'⟩, fun x' H' y => ?_⟩
    obtain ⟨e, c, hc, rfl⟩ := y
    subst e
    exact hs i c σ _ (by rw [Array.getElem?_toList]; exact hc) p
  · have e : i = x.cps.size := by omega
    subst e
    exact .inl ⟨Nat.le_refl _, hd σ H p⟩
end G
namespace G
open PySem PySem.Spec PyProof.Rows L2
/-! isinstance of built-in kinds -/
section
variable {K : PySem.W.Frag}
theorem kt_NoneType_list : PySem.W.kitOne K (.type "NoneType") (.type "list") = some false := kit_ty (by decide +kernel)
theorem kt_NoneType_tuple : PySem.W.kitOne K (.type "NoneType") (.type "tuple") = some false := kit_ty (by decide +kernel)
theorem kt_NoneType_bool : PySem.W.kitOne K (.type "NoneType") (.type "bool") = some false := kit_ty (by decide +kernel)
theorem kt_NoneType_int : PySem.W.kitOne K (.type "NoneType") (.type "int") = some false := kit_ty (by decide +kernel)
theorem kt_NoneType_str : PySem.W.kitOne K (.type "NoneType") (.type "str") = some false := kit_ty (by decide +kernel)
theorem kt_bool_list : PySem.W.kitOne K (.type "bool") (.type "list") = some false := kit_ty (by decide +kernel)
theorem kt_bool_tuple : PySem.W.kitOne K (.type "bool") (.type "tuple") = some false := kit_ty (by decide +kernel)
theorem kt_bool_bool : PySem.W.kitOne K (.type "bool") (.type "bool") = some true := kit_ty (by decide +kernel)
theorem kt_bool_int : PySem.W.kitOne K (.type "bool") (.type "int") = some true := kit_ty (by decide +kernel)
theorem kt_bool_str : PySem.W.kitOne K (.type "bool") (.type "str") = some false := kit_ty (by decide +kernel)
theorem kt_int_list : PySem.W.kitOne K (.type "int") (.type "list") = some false := kit_ty (by decide +kernel)
theorem kt_int_tuple : PySem.W.kitOne K (.type "int") (.type "tuple") = some false := kit_ty (by decide +kernel)
theorem kt_int_bool : PySem.W.kitOne K (.type "int") (.type "bool") = some false := kit_ty (by decide +kernel)
theorem kt_int_int : PySem.W.kitOne K (.type "int") (.type "int") = some true := kit_ty (by decide +kernel)
theorem kt_int_str : PySem.W.kitOne K (.type "int") (.type "str") = some false := kit_ty (by decide +kernel)
theorem kt_str_list : PySem.W.kitOne K (.type "str") (.type "list") = some false := kit_ty (by decide +kernel)
theorem kt_str_tuple : PySem.W.kitOne K (.type "str") (.type "tuple") = some false := kit_ty (by decide +kernel)
theorem kt_str_bool : PySem.W.kitOne K (.type "str") (.type "bool") = some false := kit_ty (by decide +kernel)
theorem kt_str_int : PySem.W.kitOne K (.type "str") (.type "int") = some false := kit_ty (by decide +kernel)
theorem kt_str_str : PySem.W.kitOne K (.type "str") (.type "str") = some true := kit_ty (by decide +kernel)
theorem kt_list_list : PySem.W.kitOne K (.type "list") (.type "list") = some true := kit_ty (by decide +kernel)
theorem kt_list_tuple : PySem.W.kitOne K (.type "list") (.type "tuple") = some false := kit_ty (by decide +kernel)
theorem kt_list_bool : PySem.W.kitOne K (.type "list") (.type "bool") = some false := kit_ty (by decide +kernel)
theorem kt_list_int : PySem.W.kitOne K (.type "list") (.type "int") = some false := kit_ty (by decide +kernel)
theorem kt_list_str : PySem.W.kitOne K (.type "list") (.type "str") = some false := kit_ty (by decide +kernel)
theorem kt_tuple_list : PySem.W.kitOne K (.type "tuple") (.type "list") = some false := kit_ty (by decide +kernel)
theorem kt_tuple_tuple : PySem.W.kitOne K (.type "tuple") (.type "tuple") = some true := kit_ty (by decide +kernel)
theorem kt_tuple_bool : PySem.W.kitOne K (.type "tuple") (.type "bool") = some false := kit_ty (by decide +kernel)
theorem kt_tuple_int : PySem.W.kitOne K (.type "tuple") (.type "int") = some false := kit_ty (by decide +kernel)
theorem kt_tuple_str : PySem.W.kitOne K (.type "tuple") (.type "str") = some false := kit_ty (by decide +kernel)
end
section
variable {K : PySem.W.Frag} {H : Hp} {Q : VK} {v : V}
theorem r_xL {p : Addr} {xs : List V} {i : Int} (h : SqL K H p xs) (a : atI xs i = some v) (q : Q v H) : rIx K (.ref p) (.int i) H Q := .inl ⟨p, xs, i, v, rfl, rfl, h, a, q⟩
theorem r_xT {p : Addr} {xs : List V} {i : Int} (h : SqT K H p xs) (a : atI xs i = some v) (q : Q v H) : rIx K (.ref p) (.int i) H Q := .inr (.inl ⟨p, xs, i, v, rfl, rfl, h, a, q⟩)
end
/-! a def of which nothing is promised -/
theorem fn_false {P : Program} {w : World} {K : PySem.W.Frag} {mg : Str → Option Value} {base : Heap} {CX : CXT} {k : Nat} {f : Addr} {fd : FuncData} {ps : List Str} : FnOk P w K mg base CX k f fd ps (fun _ _ _ _ => False) := by
  constructor
  · intros; contradiction
  · intros; contradiction
theorem fn_vac {P : Program} {w : World} {K : PySem.W.Frag} {mg : Str → Option Value} {base : Heap} {CX : CXT} {k : Nat} {f : Addr} {fd : FuncData} {ps : List Str} {sp : Sp} (h : ∀ vs H Q E, sp vs H Q E → False) : FnOk P w K mg base CX k f fd ps sp := by
  have e : sp = fun _ _ _ _ => False := by
    funext vs H Q E
    exact propext ⟨h vs H Q E, False.elim⟩
  rw [e]
  exact fn_false

/-! ### promises of the law's helpers -/
def cellV (ns : List Int) (k : Int) : Int := ns.getD k.toNat 0
def spCellG (K : PySem.W.Frag) : Sp := fun vs H Q _ => ∃ (l : Addr) (ns : List Int) (k : Int), vs = [.ref l, .int k] ∧ SqL K H l (ns.map V.int) ∧ 0 ≤ k ∧ Q (.int (cellV ns k)) H
/-- data of a depth below n, of bounded lengths -/
def fits : Nat → PyData → Prop
  | 0, _ => False
  | n + 1, .list ds => ds.length ≤ sizeLine ∧ ∀ d ∈ ds, fits n d
  | n + 1, .tuple ds => ds.length ≤ sizeLine ∧ ∀ d ∈ ds, fits n d
  | _ + 1, .dict _ => False
  | _ + 1, .none => True
  | _ + 1, .bool _ => True
  | _ + 1, .int _ => True
  | _ + 1, .str _ => True
def spSame (K : PySem.W.Frag) (n : Nat) : Sp := fun vs H Q _ => ∃ (x y : V) (d : PyData), vs = [x, y] ∧ Dp K H x d ∧ Dp K H y d ∧ fits n d ∧ Q (.bl true) H
/-- count new numbers from 0 to 999 -/
def spNums (K : PySem.W.Frag) : Sp := fun vs H Q _ => ∃ (c : Int) (n : Nat), vs = [.int c, .int (n : Int)] ∧ n ≤ 10000 ∧
  ∀ (H' : Hp) (p : Addr) (ns : List Int), Same H H' → H p = none → H' p = some (.lst (ns.map V.int)) → ns.length = n → (∀ z ∈ ns, 0 ≤ z ∧ z < 1000) → Q (.ref p) H'
theorem emod_rng (a : Int) {b : Int} (h : 0 < b) : 0 ≤ a % b ∧ a % b < b := ⟨Int.emod_nonneg a (by omega), Int.emod_lt_of_pos a h⟩
/-! texts as lists of codes -/
abbrev sV (l : List Nat) : V := .str ⟨l.toArray⟩
theorem str_app (a b : List Nat) : (⟨a.toArray⟩ : Str) ++ (⟨b.toArray⟩ : Str) = ⟨(a ++ b).toArray⟩ := congrArg Str.mk (show a.toArray ++ b.toArray = (a ++ b).toArray by simp)
theorem str_len (a : List Nat) : (⟨a.toArray⟩ : Str).length = a.length := by simp [Str.length]
/-- a comprehension over a text's signs -/
theorem lc_str {x : Str} {g : TG} {tt : TT} {te : TE} {vs : List Nat} {σ : L2.St} {H1 : Hp} {D : Addr} {Qd : Hp → Prop} (Pv : Nat → Hp → Prop) (h0 : Pv 0 (upd H1 D (.lst [])))
    (hs : ∀ i c H, x.cps.toList[i]? = some c → Pv i H → g (.str ⟨#[c]⟩) (wipe σ vs) H fun σ2 H2 => wipe σ2 vs = wipe σ vs ∧ tt σ2 H2 fun b H3 =>
      if b = true then te σ2 H3 fun y H4 => ∃ acc, H4 D = some (.lst acc) ∧ acc.length < sizeLine ∧ Pv (i + 1) (upd H4 D (.lst (acc ++ [y]))) else Pv (i + 1) H3) (hd : ∀ H, Pv x.cps.size H → Qd H) :
    ∃ W : Nat → Nat → Hp → Prop, (∃ m, W 0 m (upd H1 D (.lst []))) ∧ ∀ i m H, W i m H →
      ((Its x).stop i H ∧ Qd H) ∨ ((Its x).go i H ∧ ∃ Nx : Hp → Prop, (∀ H', Nx H' → ∃ m', m' < m ∧ W (i + 1) m' H') ∧ ∀ x' H', (Its x).yld i H x' H' → g x' (wipe σ vs) H' fun σ2 H2 => wipe σ2 vs = wipe σ vs ∧ tt σ2 H2 fun b H3 =>
        if b = true then te σ2 H3 fun y H4 => ∃ acc, H4 D = some (.lst acc) ∧ acc.length < sizeLine ∧ Nx (upd H4 D (.lst (acc ++ [y]))) else Nx H3) := by
  refine ⟨fun i m H => m = x.cps.size - i ∧ i ≤ x.cps.size ∧ Pv i H, ⟨x.cps.size, by simp, Nat.zero_le _, h0⟩, ?_⟩
  rintro i m H ⟨rfl, hi, p⟩
  by_cases hlt : i < x.cps.size
  · refine .inr ⟨hlt, Pv (i + 1), fun H' p' => ⟨x.cps.size - (i + 1), by omega, rfl, hlt, p'⟩, fun x' H' y => ?_⟩
    obtain ⟨e, c, hc, rfl⟩ := y
    subst e
    exact hs i c _ (by rw [Array.getElem?_toList]; exact hc) p
  · have e : i = x.cps.size := by omega
    subst e
    exact .inl ⟨Nat.le_refl _, hd H p⟩
theorem cut_abcd {m : Nat} (h4 : m ≤ 4) : cutS (Str.ofString "abcd") none (some (m : Int)) = ⟨(List.take m [97, 98, 99, 100]).toArray⟩ := by
  match m, h4 with
  | 0, _ => decide +kernel
  | 1, _ => decide +kernel
  | 2, _ => decide +kernel
  | 3, _ => decide +kernel
  | 4, _ => decide +kernel
section
variable {σ : L2.St} {H : Hp} {Q : VK} {K : PySem.W.Frag} {te : TE} {R : It → Hp → Prop}
theorem r_gn {i : Nat} {v : V} {C : L2.St → Hp → Prop} (h : C (σ.set i (some v)) H) : gName i v σ H C := h
theorem iteNT {A B : Prop} (h : B) : if (!true) = true then A else B := iteF h
theorem iteNF {A B : Prop} (h : A) : if (!false) = true then A else B := iteT h
theorem r_fdiv {g : Int → Int → V} {i j : Int} (hc : 0 < j ∧ j < 1073741824) (h : Q (g i j) H) : rI CDiv g (.int i) (.int j) H Q := ⟨i, j, rfl, rfl, hc, h⟩
theorem r_mod {g : Int → Int → V} {i j : Int} (hc : 0 < j) (h : Q (g i j) H) : rI (fun _ j => 0 < j) g (.int i) (.int j) H Q := ⟨i, j, rfl, rfl, hc, h⟩
theorem r_mul {g : Int → Int → V} {i j : Int} (hc : (-(2 ^ 64) < i ∧ i < 2 ^ 64) ∨ (-(2 ^ 64) < j ∧ j < 2 ^ 64)) (h : Q (g i j) H) : rI CMul g (.int i) (.int j) H Q := ⟨i, j, rfl, rfl, hc, h⟩
theorem r_pow {g : Int → Int → V} {i j : Int} (hc : 0 ≤ j ∧ j ≤ 1000000 ∧ i.natAbs < 2 ^ 64) (h : Q (g i j) H) : rI CPow g (.int i) (.int j) H Q := ⟨i, j, rfl, rfl, hc, h⟩
theorem r_iStr (h : te σ H fun v H1 => ∃ x, v = .str x ∧ R (Its x) H1) : iStr te σ H R := h
theorem r_iList (h : te σ H fun x H1 => ∃ a, x = .ref a ∧ (∃ xs, SqL K H1 a xs) ∧ R (Itl K a) H1) : iList K te σ H R := h
theorem r_iTup (h : te σ H fun x H1 => ∃ a, x = .ref a ∧ (∃ xs, SqT K H1 a xs) ∧ R (Itt K a) H1) : iTup K te σ H R := h
theorem r_str1 {z : Str} {C : Str → Prop} (h : C z) : ∃ x, V.str z = .str x ∧ C x := ⟨z, rfl, h⟩
theorem r_ref1 {p : Addr} {C : Addr → Prop} (h : C p) : ∃ a, V.ref p = .ref a ∧ C a := ⟨p, rfl, h⟩
end
/-! places in a text -/
def noE : Expr := .Name "" ⟨0, 0, 0, 0⟩
def noS : Stmt := .Pass ⟨0, 0, 0, 0⟩
def eArg (k : Nat) : Expr → Expr | .Call _ es _ _ => es.getD k noE | _ => noE
def eFun : Expr → Expr | .Call f _ _ _ => f | _ => noE
def eObj : Expr → Expr | .Attribute v _ _ => v | _ => noE
def eElt : Expr → Expr | .ListComp e _ _ _ => e | .SetComp e _ _ _ => e | .GeneratorExp e _ _ _ => e | _ => noE
def eScope : Expr → Scope | .ListComp _ _ sc _ => sc | .SetComp _ _ sc _ => sc | .GeneratorExp _ _ sc _ => sc | _ => { kind := .function, names := [], isGenerator := false, isCoroutine := false }
def eIter (k : Nat) : Expr → Expr | .ListComp _ gs _ _ => (gs.map fun g => g.iter).getD k noE | _ => noE
def eIf (k j : Nat) : Expr → Expr | .ListComp _ gs _ _ => ((gs.map fun g => g.ifs).getD k []).getD j noE | _ => noE
def eLeft : Expr → Expr | .BinOp a _ _ _ => a | .Compare a _ _ _ => a | .Subscript a _ _ => a | .UnaryOp _ a _ => a | _ => noE
def eRight : Expr → Expr | .BinOp _ _ b _ => b | .Subscript _ b _ => b | _ => noE
def eCmp (k : Nat) : Expr → Expr | .Compare _ _ bs _ => bs.getD k noE | _ => noE
def eVal (k : Nat) : Expr → Expr | .BoolOp _ es _ => es.getD k noE | .List es _ => es.getD k noE | .Tuple es _ _ => es.getD k noE | _ => noE
def sE : Stmt → Expr | .Assign _ e _ => e | .AugAssign _ _ e _ => e | .Return (some e) _ => e | .Expr e _ => e | .If c _ _ _ => c | .While c _ _ _ => c | .For _ it _ _ _ => it | _ => noE
def sIn (k : Nat) : Stmt → Stmt | .FunctionDef _ _ b _ _ _ _ _ _ _ => b.getD k noS | .If _ b _ _ => b.getD k noS | .For _ _ b _ _ => b.getD k noS | .While _ b _ _ => b.getD k noS | _ => noS
def sElse (k : Nat) : Stmt → Stmt | .If _ _ b _ => b.getD k noS | _ => noS
section
variable {σ : L2.St} {H : Hp} {Q : VK} {K : PySem.W.Frag} {te : TE}
def rIdxS : V → List V → Hp → VK → Prop := fun x xs H Q => ∃ a b i rest, x = .str a ∧ xs = [.str b] ∧ Builtin.Str.occurrences a b 0 a.length 1 = i :: rest ∧ Q (.int (i : Nat)) H
theorem mt_indexS {X : Cx} : MtR X "str.index" rIdxS := mt_sindex
theorem occ_abcd {j c : Nat} (h : [97, 98, 99, 100][j]? = some c) : Builtin.Str.occurrences (Str.ofString "abcd") ⟨#[c]⟩ 0 (Str.ofString "abcd").length 1 = [j] := by
  match j, h with
  | 0, h => cases Option.some.inj h; decide +kernel
  | 1, h => cases Option.some.inj h; decide +kernel
  | 2, h => cases Option.some.inj h; decide +kernel
  | 3, h => cases Option.some.inj h; decide +kernel
  | n + 4, h => simp at h
theorem r_idxS {j c : Nat} (h : [97, 98, 99, 100][j]? = some c) (q : Q (.int (j : Int)) H) : rIdxS (.str (Str.ofString "abcd")) [.str ⟨#[c]⟩] H Q := ⟨_, _, j, [], rfl, rfl, occ_abcd h, q⟩
def rJoinS (K : PySem.W.Frag) : V → List V → Hp → VK → Prop := fun x xs H Q => ∃ a p, ∃ ys : List Str, x = .str a ∧ xs = [.ref p] ∧ (SqL K H p (ys.map V.str) ∨ SqT K H p (ys.map V.str)) ∧ (ys.map (·.length)).sum + ys.length * a.length ≤ 16777216 ∧ Q (.str (Txt.join a ys)) H
theorem mt_joinS {X : Cx} : MtR X "str.join" (rJoinS X.K) := mt_join
theorem r_bmS {T : String} {r : V → List V → Hp → VK → Prop} {to : TE} {t : TA} (h : to σ H fun x H1 => tyV K T x H1 ∧ t σ H1 fun xs H2 => r x xs H2 Q) : tBM K T r to t σ H Q := h
theorem foldl_app : ∀ (xs : List (Array Nat)) (acc : Array Nat), xs.foldl (· ++ ·) acc = acc ++ (xs.map Array.toList).flatten.toArray
  | [], acc => by simp
  | x :: xs, acc => by
    rw [List.foldl_cons, foldl_app xs (acc ++ x)]
    rw [List.map_cons, List.flatten_cons, Array.append_assoc]
    congr 1
    apply Array.ext'
    simp
theorem mul_txt (l : List Nat) (n : Nat) : Txt.mul ⟨l.toArray⟩ (n : Int) = ⟨((List.replicate n l).flatten).toArray⟩ := by
  unfold Txt.mul
  by_cases h1 : (n : Int) < 1
  · have e : n = 0 := by omega
    subst e
    rfl
  · rw [if_neg h1]
    by_cases h2 : ((n : Int) == 1 || (⟨l.toArray⟩ : Str).length == 0) = true
    · rw [if_pos h2]
      rcases Bool.or_eq_true_iff.mp h2 with e | e
      · have e' : n = 1 := by have := eq_of_beq e; omega
        subst e'
        simp
      · have e' : l = [] := by
          have e2 : l.toArray.size = 0 := eq_of_beq e
          rw [List.size_toArray] at e2
          exact List.length_eq_zero_iff.mp e2
        subst e'
        simp
    · rw [if_neg h2]
      congr 1
      rw [foldl_app]
      simp
def rRepS : R2 := fun x y H Q => ∃ (l : List Nat) (n : Nat), x = .str ⟨l.toArray⟩ ∧ y = .int (n : Int) ∧ l.length * n ≤ sizeLine ∧ n ≤ 1000000 ∧ Q (.str ⟨((List.replicate n l).flatten).toArray⟩) H
theorem op_repS {X : Cx} : OpR X (binaryOp .Mult) rRepS := by
  intro pins s σ H x y v u Q I rx ry h
  obtain ⟨l, n, rfl, rfl, hl, hn, q⟩ := h
  obtain ⟨t, rfl⟩ := rx
  obtain ⟨t2, rfl⟩ := ry
  refine SB.mul ⟨?_, fun h1 h2 => ?_, fun h1 h2 => ?_⟩ fun t' k => ⟨.str (Txt.mul ⟨l.toArray⟩ (n : Int)), H, I.tok k, ⟨t', rfl⟩, ?_⟩
  · rw [Bool.or_eq_false_iff]
    exact ⟨decide_eq_false (by omega), decide_eq_false (by omega)⟩
  · have hz : (sizeLine : Nat) = 16777216 := by decide
    rw [str_len]
    intro hc
    have hn1 : 1 ≤ n := by omega
    have hll : l.length ≤ 16777216 := by
      have : l.length * 1 ≤ l.length * n := Nat.mul_le_mul_left _ hn1
      omega
    have h3 : (1000000000 : Int) ≤ (2 ^ 63 - 1) / (n : Int) := by
      rw [Int.le_ediv_iff_mul_le (by omega)]
      omega
    omega
  · rw [str_len]
    have : (l.length * (n : Int).toNat) ≤ sizeLine := by rw [Int.toNat_natCast]; exact hl
    exact decide_eq_false (by omega)
  · rw [mul_txt]
    exact q
theorem r_lstRg1 {j : Int} (h0 : 0 ≤ j) (h1 : j ≤ 16777216) (q : ∀ p, H p = none → Q (.ref p) (upd H p (.lst (((List.range j.toNat).map fun i : Nat => (i : Int)).map V.int)))) (h : te σ H fun x H1 => x = .int j ∧ H1 = H) (mono : ∀ R R' : VK, (∀ v H, R v H → R' v H) → te σ H R → te σ H R') : tLstRg (tRg1 te) σ H Q := by
  refine mono _ _ (fun v H1 e => ?_) h
  obtain ⟨rfl, rfl⟩ := e
  refine ⟨j, rfl, RgOk.of_le (Int.le_refl _) h1 (by decide) h0, fun p hp => ?_⟩
  have e : rgV 0 j = ((List.range j.toNat).map fun i : Nat => (i : Int)).map V.int := by
    unfold rgV
    rw [List.map_map, show (j - 0) = j by omega]
    refine List.map_congr_left fun i _ => ?_
    show V.int (0 + (i : Int)) = V.int (i : Int)
    rw [Int.zero_add]
  rw [e]
  exact q p hp
end
/-! drawn numbers -/
def Dr (n : Nat) (c : Int) (ms : List Int) : Prop := ms.length = n ∧ ∀ z ∈ ms, 0 ≤ z ∧ z < c
theorem Dr.nil {c : Int} : Dr 0 c [] := ⟨rfl, fun _ h => nomatch h⟩
theorem Dr.app {n : Nat} {c z : Int} {ms : List Int} (h : Dr n c ms) (h0 : 0 ≤ z) (h1 : z < c) : Dr (n + 1) c (ms ++ [z]) := by
  refine ⟨by rw [List.length_append, h.1]; rfl, fun y hy => ?_⟩
  rcases List.mem_append.mp hy with hy | hy
  · exact h.2 y hy
  · rw [List.mem_singleton.mp hy]; exact ⟨h0, h1⟩
theorem Dr.set {n : Nat} {c z : Int} {ms : List Int} {j : Nat} (h : Dr n c ms) (h0 : 0 ≤ z) (h1 : z < c) : Dr n c (ms.set j z) := by
  refine ⟨by rw [List.length_set]; exact h.1, fun y hy => ?_⟩
  rcases List.mem_or_eq_of_mem_set hy with hy | hy
  · exact h.2 y hy
  · rw [hy]; exact ⟨h0, h1⟩
theorem Dr.getD {n : Nat} {c : Int} {ms : List Int} {j : Nat} (h : Dr n c ms) (hj : j < n) : 0 ≤ ms.getD j 0 ∧ ms.getD j 0 < c := by
  have hj' : j < ms.length := by rw [h.1]; exact hj
  rw [List.getD_eq_getElem?_getD, List.getElem?_eq_getElem hj']
  exact h.2 _ (List.getElem_mem hj')
theorem at_int {ns : List Int} {i : Int} (h0 : 0 ≤ i) (h1 : i < ns.length) : atI (ns.map V.int) i = some (.int (ns.getD i.toNat 0)) := by
  have hi : i.toNat < ns.length := by omega
  refine at_of (j := i.toNat) (by omega) ?_
  rw [List.getElem?_map, List.getD_eq_getElem?_getD, List.getElem?_eq_getElem hi]
  rfl
theorem ix_set {n : Nat} {i : Int} (h0 : 0 ≤ i) (h1 : i < n) : ixN n i = some i.toNat := by
  unfold ixN
  rw [if_pos h0, if_pos h1]
theorem r_setL {p : Addr} {xs : List V} {k : Int} {y : V} {H : Hp} {Q : Hp → Prop} (h : H p = some (.lst xs)) (h0 : 0 ≤ k) (h1 : k < xs.length) (q : Q (upd H p (.lst (xs.set k.toNat y)))) : rSetL (.ref p) (.int k) y H Q := ⟨p, xs, k, k.toNat, rfl, rfl, h, ix_set h0 h1, q⟩
theorem r_gsub {to ti : TE} {t : TSet} {v : V} {σ : L2.St} {H : Hp} {C : L2.St → Hp → Prop} (h : to σ H fun o H1 => ti σ H1 fun i H2 => t o i v H2 fun H3 => C σ H3) : gSub to ti t v σ H C := h
theorem map_set_int (ms : List Int) (j : Nat) (z : Int) : (ms.map V.int).set j (V.int z) = (ms.set j z).map V.int := by rw [List.map_set]
theorem rep_flat (z : Int) (n : Nat) : (List.replicate n [V.int z]).flatten = (List.replicate n z).map V.int := by
  induction n with
  | zero => rfl
  | succ n ih => rw [List.replicate_succ, List.flatten_cons, ih, List.replicate_succ]; rfl
theorem Dr.rep {n : Nat} {c z : Int} (h0 : 0 ≤ z) (h1 : z < c) : Dr n c (List.replicate n z) := ⟨List.length_replicate, fun y hy => by rw [(List.mem_replicate.mp hy).2]; exact ⟨h0, h1⟩⟩
theorem Dr.perm {n : Nat} {c : Int} {ms ms' : List Int} (h : Dr n c ms) (p : ms'.Perm ms) : Dr n c ms' := ⟨by rw [p.length_eq]; exact h.1, fun y hy => h.2 y (p.mem_iff.mp hy)⟩
theorem Dr.range (n : Nat) : Dr n n ((List.range n).map fun i : Nat => (i : Int)) := by
  refine ⟨by rw [List.length_map, List.length_range], fun y hy => ?_⟩
  obtain ⟨i, hi, rfl⟩ := List.mem_map.mp hy
  have := List.mem_range.mp hi
  exact ⟨by omega, by omega⟩
def spAction (K : PySem.W.Frag) : Sp := fun vs H Q _ => ∃ (p : Addr) (ns : List Int) (n : Nat), vs = [.ref p, .int (n : Int)] ∧ SqL K H p (ns.map V.int) ∧ 12 ≤ ns.length ∧ 1 ≤ n ∧ n ≤ 10 ∧
  ∀ (H' : Hp) (q : Addr) (ms : List Int), Same H H' → H q = none → H' q = some (.lst (ms.map V.int)) → Dr n n ms → Q (.ref q) H'
/-! the rules with the written part named -/
section
variable {X : Cx} {K : PySem.W.Frag}
theorem ix_listK (h : X.K = K) : IxR X (rIxL K) := h ▸ ix_list
theorem ix_tupK (h : X.K = K) : IxR X (rIxT K) := h ▸ ix_tup
theorem ix_seqK (h : X.K = K) : IxR X (rIx K) := h ▸ ix_seq
theorem call_lenQK (h : X.K = K) : CallR X (.builtin "len") (rLenQ K) := h ▸ call_lenQ
theorem call_tupOfK (h : X.K = K) : CallR X (.type "tuple") (rTupOf K) := h ▸ call_tupOf
theorem call_lstOfK (h : X.K = K) : CallR X (.type "list") (rLstOf K) := h ▸ call_lstOf
theorem call_isiK1 (h : X.K = K) : CallR X (.builtin "isinstance") (rIsi K) := h ▸ call_isi
theorem cr_sortedK (h : X.K = K) : CallR X (.builtin "sorted") (rSorted K) := h ▸ cr_sorted
theorem sl_listK (h : X.K = K) : SlR X (rSlL K) := h ▸ sl_list
theorem sl_tupK (h : X.K = K) : SlR X (rSlT K) := h ▸ sl_tup
theorem op_inK (h : X.K = K) : OpR X (compareOp .In) (rIn K false) := h ▸ op_in_seq
theorem op_notInK (h : X.K = K) : OpR X (compareOp .NotIn) (rIn K true) := h ▸ op_notIn_seq
theorem op_catTK (h : X.K = K) : OpR X (binaryOp .Add) (rCatT K) := h ▸ op_catT
theorem op_eqDK (h : X.K = K) (hu : X.A.units + 64 < cLine) : OpR X (compareOp .Eq) (rEqD K) := h ▸ op_eqD hu
theorem op_neDK (h : X.K = K) (hu : X.A.units + 64 < cLine) : OpR X (compareOp .NotEq) (rNeD K) := h ▸ op_neD hu
theorem mt_joinSK (h : X.K = K) : MtR X "str.join" (rJoinS K) := h ▸ mt_joinS
theorem cr_anyK (h : X.K = K) (hc : X.calm = true) : CallR X (.builtin "any") (rAny K) := h ▸ cr_any hc
theorem pi_listK {tg l : Expr} {tl : TE} (h : X.K = K) (hl : PE X l tl) : PI X tg l (iList K tl) := h ▸ pi_list hl
theorem pi_tupK {tg l : Expr} {tl : TE} (h : X.K = K) (hl : PE X l tl) : PI X tg l (iTup K tl) := h ▸ pi_tup hl
theorem bmK {e : Expr} {T : String} {r : V → List V → Hp → VK → Prop} {to : TE} {t : TA} (h : X.K = K) (p : PE X e (tBM X.K T r to t)) : PE X e (tBM K T r to t) := h ▸ p
theorem bm0K {e : Expr} {T : String} {r : V → List V → Hp → VK → Prop} {to : TE} (h : X.K = K) (p : PE X e (tBM0 X.K T r to)) : PE X e (tBM0 K T r to) := h ▸ p
theorem pg_tupK {es : List Expr} {k : Nat} {t : TGs} {n : Nat} {pos : Pos} (hK : X.K = K) (hc : X.calm = true) (h : PGs X es t) (hn : (assignEach es X.env).length = n := by rfl) (hst : (assignEach es X.env).findIdx? (·.1) = none := by rfl) : PG X (.Tuple es k pos) (gTup K n t) := hK ▸ pg_tup hc h hn hst
end
theorem ln1 {x0 : V} : [x0].length ≤ sizeLine := by show 1 ≤ sizeLine; decide
theorem ln2 {x0 x1 : V} : [x0, x1].length ≤ sizeLine := by show 2 ≤ sizeLine; decide
theorem ln3 {x0 x1 x2 : V} : [x0, x1, x2].length ≤ sizeLine := by show 3 ≤ sizeLine; decide
theorem ln4 {x0 x1 x2 x3 : V} : [x0, x1, x2, x3].length ≤ sizeLine := by show 4 ≤ sizeLine; decide
theorem ln5 {x0 x1 x2 x3 x4 : V} : [x0, x1, x2, x3, x4].length ≤ sizeLine := by show 5 ≤ sizeLine; decide
theorem ln6 {x0 x1 x2 x3 x4 x5 : V} : [x0, x1, x2, x3, x4, x5].length ≤ sizeLine := by show 6 ≤ sizeLine; decide
theorem ln7 {x0 x1 x2 x3 x4 x5 x6 : V} : [x0, x1, x2, x3, x4, x5, x6].length ≤ sizeLine := by show 7 ≤ sizeLine; decide
theorem ln8 {x0 x1 x2 x3 x4 x5 x6 x7 : V} : [x0, x1, x2, x3, x4, x5, x6, x7].length ≤ sizeLine := by show 8 ≤ sizeLine; decide
/-! ### data of tuples alone: what never changes -/
mutual
inductive Dt (K : PySem.W.Frag) (H : Hp) : V → PyData → Prop
  | non : Dt K H .non .none
  | bl (b : Bool) : Dt K H (.bl b) (.bool b)
  | int (i : Int) : Dt K H (.int i) (.int i)
  | str (x : Str) : Dt K H (.str x) (.str x)
  | tup {a : Addr} {xs : List V} {ds : List PyData} : SqT K H a xs → DtAll K H xs ds → Dt K H (.ref a) (.tuple ds)
inductive DtAll (K : PySem.W.Frag) (H : Hp) : List V → List PyData → Prop
  | nil : DtAll K H [] []
  | cons {v : V} {vs : List V} {d : PyData} {ds : List PyData} : Dt K H v d → DtAll K H vs ds → DtAll K H (v :: vs) (d :: ds)
end
/-- tuples stand -/
def SameT (H H' : Hp) : Prop := ∀ b, (∀ xs, H b = some (.tup xs) → H' b = some (.tup xs)) ∧ ∀ o xs, H b = some (.frz o (.tup xs)) → H' b = some (.frz o (.tup xs))
theorem sT_of {H H' : Hp} (e : Same H H') : SameT H H' := fun b => ⟨fun _ h => e b _ h, fun _ _ h => e b _ h⟩
theorem SameT.refl (H : Hp) : SameT H H := fun _ => ⟨fun _ h => h, fun _ _ h => h⟩
theorem SameT.trans {H H1 H2 : Hp} (a : SameT H H1) (b : SameT H1 H2) : SameT H H2 := fun c => ⟨fun xs h => (b c).1 xs ((a c).1 xs h), fun o xs h => (b c).2 o xs ((a c).2 o xs h)⟩
theorem SameT.lst {H : Hp} {p : Addr} {xs : List V} {o : HO} (h : H p = some (.lst xs)) : SameT H (upd H p o) := fun b => by
  refine ⟨fun ys e => ?_, fun o' ys e => ?_⟩
  · have : b ≠ p := fun z => by rw [z, h] at e; cases e
    rw [upd_ne this]; exact e
  · have : b ≠ p := fun z => by rw [z, h] at e; cases e
    rw [upd_ne this]; exact e
theorem SameT.sq {K : PySem.W.Frag} {H H' : Hp} {a : Addr} {xs : List V} (e : SameT H H') (h : SqT K H a xs) : SqT K H' a xs := by
  rcases h with (h | ⟨o, h⟩) | h
  · exact .inl (.inl ((e _).1 _ h))
  · exact .inl (.inr ⟨o, (e _).2 _ _ h⟩)
  · exact .inr h
mutual
theorem Dt.keep {K : PySem.W.Frag} {H H' : Hp} (e : SameT H H') : ∀ (d : PyData) (v : V), Dt K H v d → Dt K H' v d
  | .none, _, h => by cases h; exact .non
  | .bool b, _, h => by cases h; exact .bl b
  | .int i, _, h => by cases h; exact .int i
  | .str x, _, h => by cases h; exact .str x
  | .list ds, _, h => by cases h
  | .tuple ds, _, h => by
    cases h with
    | tup hs ha => exact .tup (e.sq hs) (DtAll.keep e ds _ ha)
  | .dict _, _, h => by cases h
theorem DtAll.keep {K : PySem.W.Frag} {H H' : Hp} (e : SameT H H') : ∀ (ds : List PyData) (vs : List V), DtAll K H vs ds → DtAll K H' vs ds
  | [], _, h => by cases h; exact .nil
  | d :: ds, _, h => by
    cases h with
    | cons h1 h2 => exact .cons (Dt.keep e d _ h1) (DtAll.keep e ds _ h2)
end
mutual
theorem Dt.dp {K : PySem.W.Frag} {H : Hp} : ∀ (d : PyData) (v : V), Dt K H v d → Dp K H v d
  | .none, _, h => by cases h; exact .non
  | .bool b, _, h => by cases h; exact .bl b
  | .int i, _, h => by cases h; exact .int i
  | .str x, _, h => by cases h; exact .str x
  | .list ds, _, h => by cases h
  | .tuple ds, _, h => by
    cases h with
    | tup hs ha => exact .tup hs (DtAll.dp ds _ ha)
  | .dict _, _, h => by cases h
theorem DtAll.dp {K : PySem.W.Frag} {H : Hp} : ∀ (ds : List PyData) (vs : List V), DtAll K H vs ds → DpAll K H vs ds
  | [], _, h => by cases h; exact .nil
  | d :: ds, _, h => by
    cases h with
    | cons h1 h2 => exact .cons (Dt.dp d _ h1) (DtAll.dp ds _ h2)
end
section
variable {K : PySem.W.Frag} {H H' : Hp}
theorem Dt.k {v : V} {d : PyData} (h : Dt K H v d) (e : SameT H H') : Dt K H' v d := Dt.keep e d v h
theorem DtAll.k {vs : List V} {ds : List PyData} (h : DtAll K H vs ds) (e : SameT H H') : DtAll K H' vs ds := DtAll.keep e ds vs h
theorem DtAll.len : ∀ {vs : List V} {ds : List PyData}, DtAll K H vs ds → vs.length = ds.length
  | _, _, .nil => rfl
  | _, _, .cons _ t => congrArg (· + 1) (DtAll.len t)
theorem DtAll.get : ∀ {vs : List V} {ds : List PyData} {i : Nat} {d : PyData}, DtAll K H vs ds → ds[i]? = some d → ∃ v, vs[i]? = some v ∧ Dt K H v d
  | _, _, _, _, .nil, e => by simp at e
  | _, _, 0, _, .cons h _, e => by simp at e; subst e; exact ⟨_, rfl, h⟩
  | _, _, i + 1, d, .cons _ t, e => by
    obtain ⟨v, h1, h2⟩ := DtAll.get (i := i) (d := d) t (by simpa using e)
    exact ⟨v, by simpa using h1, h2⟩
theorem DtAll.map {α : Type} {f : α → V} {g : α → PyData} (h : ∀ x, Dt K H (f x) (g x)) : ∀ xs : List α, DtAll K H (xs.map f) (xs.map g)
  | [] => .nil
  | x :: xs => .cons (h x) (DtAll.map h xs)
theorem DtAll.app : ∀ {vs ws : List V} {ds es : List PyData}, DtAll K H vs ds → DtAll K H ws es → DtAll K H (vs ++ ws) (ds ++ es)
  | _, _, _, _, .nil, s => s
  | _, _, _, _, .cons h t, s => .cons h (DtAll.app t s)
theorem DtAll.snoc {vs : List V} {ds : List PyData} {v : V} {d : PyData} (a : DtAll K H vs ds) (b : Dt K H v d) : DtAll K H (vs ++ [v]) (ds ++ [d]) := a.app (.cons b .nil)
theorem Dt.tupE {v : V} {ds : List PyData} (h : Dt K H v (.tuple ds)) : ∃ a xs, v = .ref a ∧ SqT K H a xs ∧ DtAll K H xs ds := by
  cases h with
  | tup hs ha => exact ⟨_, _, rfl, hs, ha⟩
theorem Dt.intE {v : V} {i : Int} (h : Dt K H v (.int i)) : v = .int i := by cases h; rfl
theorem DtAll.ints : ∀ {ns : List Int} {vs : List V}, DtAll K H vs (ns.map .int) → vs = ns.map V.int
  | [], _, h => by cases h; rfl
  | n :: ns, _, h => by
    cases h with
    | cons h1 h2 => rw [Dt.intE h1, DtAll.ints h2]; rfl
theorem DtAll.ofInts (ns : List Int) : DtAll K H (ns.map V.int) (ns.map .int) := DtAll.map (fun i => .int i) ns
/-- an item of a tuple of data -/
theorem Dt.item {v : V} {ds : List PyData} {i : Nat} {d : PyData} (h : Dt K H v (.tuple ds)) (e : ds[i]? = some d) : ∃ a xs w, v = .ref a ∧ SqT K H a xs ∧ xs[i]? = some w ∧ Dt K H w d := by
  obtain ⟨a, xs, rfl, hs, ha⟩ := h.tupE
  obtain ⟨w, h1, h2⟩ := ha.get e
  exact ⟨a, xs, w, rfl, hs, h1, h2⟩
end
/-! ### machines -/
structure Mac where
  steps : List (List Nat)
  start : Nat
  good : List Nat
def nD (n : Nat) : PyData := .int (n : Int)
def rowD (r : List Nat) : PyData := .tuple (r.map nD)
def macD (M : Mac) : PyData := .tuple [.tuple (M.steps.map rowD), nD M.start, rowD M.good]
structure MacOk (M : Mac) (n m : Nat) : Prop where
  len : M.steps.length = n
  row : ∀ r ∈ M.steps, r.length = m ∧ ∀ s ∈ r, s < n
  start : M.start < n
  good : ∀ s ∈ M.good, s < n
  asc : M.good.Pairwise (· < ·)
def iV (n : Nat) : V := .int (n : Int)
def spMachine (K : PySem.W.Frag) : Sp := fun vs H Q _ => ∃ (c : Int) (n m : Nat), vs = [.int c, .int (n : Int), .int (m : Int)] ∧ 1 ≤ n ∧ n ≤ 10 ∧ 1 ≤ m ∧ m ≤ 4 ∧
  ∀ (H' : Hp) (v : V) (M : Mac), Same H H' → Dt K H' v (macD M) → MacOk M n m → Q v H'
theorem cut_drop (xs : List V) (k : Nat) : cutV xs (some (k : Int)) none = xs.drop k := by
  unfold cutV
  rw [HT.sIx_nat, HT.sIx_none]
  by_cases h : k ≤ xs.length
  · rw [Nat.min_eq_left h]
    refine List.take_of_length_le ?_
    rw [List.length_drop]
    exact Nat.le_refl _
  · rw [Nat.min_eq_right (by omega), List.drop_eq_nil_of_le (Nat.le_refl _), List.drop_eq_nil_of_le (by omega), List.take_nil]
theorem menu8 {j : Nat} (h : j < 8) : ∃ d : Int, [V.int 1, V.int 2, V.int 4, V.int 8, V.int 16, V.int 32, V.int 64, V.int 125][j]? = some (.int d) ∧ 0 < d ∧ d < 1073741824 := by
  match j, h with
  | 0, _ => exact ⟨1, rfl, by decide, by decide⟩
  | 1, _ => exact ⟨2, rfl, by decide, by decide⟩
  | 2, _ => exact ⟨4, rfl, by decide, by decide⟩
  | 3, _ => exact ⟨8, rfl, by decide, by decide⟩
  | 4, _ => exact ⟨16, rfl, by decide, by decide⟩
  | 5, _ => exact ⟨32, rfl, by decide, by decide⟩
  | 6, _ => exact ⟨64, rfl, by decide, by decide⟩
  | 7, _ => exact ⟨125, rfl, by decide, by decide⟩
theorem nat_of {z c : Int} (h0 : 0 ≤ z) (h1 : z < c) : ∃ k : Nat, z = (k : Int) ∧ (k : Int) < c := ⟨z.toNat, by omega, by omega⟩
theorem ints_nat (r : List Nat) : (r.map iV) = (r.map fun n : Nat => (n : Int)).map V.int := by rw [List.map_map]; rfl
theorem ofNats {K : PySem.W.Frag} {H : Hp} (r : List Nat) : DtAll K H (r.map iV) (r.map nD) := DtAll.map (α := Nat) (f := iV) (g := nD) (fun n => .int (n : Int)) r
theorem nats_of {ms : List Int} {c : Int} (h : ∀ z ∈ ms, 0 ≤ z ∧ z < c) : ∃ r : List Nat, ms = r.map (fun n : Nat => (n : Int)) ∧ ∀ s ∈ r, (s : Int) < c := by
  refine ⟨ms.map Int.toNat, ?_, fun s hs => ?_⟩
  · rw [List.map_map]
    refine ((List.map_id ms).symm.trans (List.map_congr_left fun z hz => ?_))
    have := (h z hz).1
    show z = ((z.toNat : Nat) : Int)
    omega
  · obtain ⟨z, hz, rfl⟩ := List.mem_map.mp hs
    have := h z hz
    omega
/-! ### where words lead -/
def stepM (M : Mac) (s c : Nat) : Nat := (M.steps.getD s []).getD (c - 97) 0
def leadM (M : Mac) (s : Nat) (w : List Nat) : Nat := w.foldl (stepM M) s
def accM (M : Mac) (w : List Nat) : Bool := decide (leadM M M.start w ∈ M.good)
/-- codes of the first m letters -/
def isW (m : Nat) (w : List Nat) : Prop := ∀ c ∈ w, 97 ≤ c ∧ c < 97 + m
theorem isW.app {m : Nat} {u w : List Nat} (a : isW m u) (b : isW m w) : isW m (u ++ w) := fun c hc => (List.mem_append.mp hc).elim (a c) (b c)
theorem isW.take {m : Nat} {w : List Nat} (a : isW m w) (i : Nat) : isW m (w.take i) := fun c hc => a c (List.mem_of_mem_take hc)
theorem isW.rep {m : Nat} {w : List Nat} (a : isW m w) (k : Nat) : isW m (List.replicate k w).flatten := fun c hc => by
  obtain ⟨l, hl, hc⟩ := List.mem_flatten.mp hc
  rw [(List.mem_replicate.mp hl).2] at hc
  exact a c hc
theorem MacOk.rowAt {M : Mac} {n m s : Nat} (h : MacOk M n m) (hs : s < n) : (M.steps.getD s []).length = m ∧ ∀ t ∈ M.steps.getD s [], t < n := by
  have hs' : s < M.steps.length := by rw [h.len]; exact hs
  rw [List.getD_eq_getElem?_getD, List.getElem?_eq_getElem hs']
  exact h.row _ (List.getElem_mem hs')
theorem getD_mem {l : List Nat} {j : Nat} (h : j < l.length) : l.getD j 0 ∈ l := by
  rw [List.getD_eq_getElem?_getD, List.getElem?_eq_getElem h]
  exact List.getElem_mem h
theorem MacOk.step {M : Mac} {n m s c : Nat} (h : MacOk M n m) (hs : s < n) (h0 : 97 ≤ c) (h1 : c < 97 + m) : stepM M s c < n := by
  obtain ⟨hl, hr⟩ := h.rowAt hs
  exact hr _ (getD_mem (by rw [hl]; omega))
theorem leadM_lt {M : Mac} {n m : Nat} (h : MacOk M n m) : ∀ (w : List Nat) (s : Nat), s < n → isW m w → leadM M s w < n
  | [], s, hs, _ => hs
  | c :: w, s, hs, hw => leadM_lt h w _ (h.step hs (hw c List.mem_cons_self).1 (hw c List.mem_cons_self).2) fun d hd => hw d (List.mem_cons_of_mem _ hd)
theorem leadM_snoc (M : Mac) (s : Nat) (w : List Nat) (c : Nat) : leadM M s (w ++ [c]) = stepM M (leadM M s w) c := by
  unfold leadM
  rw [List.foldl_append]
  rfl
section
variable {K : PySem.W.Frag} {H : Hp}
theorem rowE {v : V} {r : List Nat} (h : Dt K H v (rowD r)) : ∃ p, v = .ref p ∧ SqT K H p (r.map iV) := by
  obtain ⟨p, xs, rfl, hs, ha⟩ := h.tupE
  refine ⟨p, rfl, ?_⟩
  have e : r.map nD = (r.map fun n : Nat => (n : Int)).map PyData.int := by rw [List.map_map]; rfl
  rw [e] at ha
  rw [ints_nat, ← ha.ints]
  exact hs
theorem macE {v : V} {M : Mac} (h : Dt K H v (macD M)) : ∃ a st gd vs, v = .ref a ∧ SqT K H a [.ref st, iV M.start, .ref gd] ∧ SqT K H st vs ∧ DtAll K H vs (M.steps.map rowD) ∧ SqT K H gd (M.good.map iV) := by
  obtain ⟨a, xs, rfl, hs, ha⟩ := h.tupE
  cases ha with
  | cons h1 t1 =>
  cases t1 with
  | cons h2 t2 =>
  cases t2 with
  | cons h3 t3 =>
  cases t3
  obtain ⟨st, vs, rfl, hst, hvs⟩ := h1.tupE
  obtain ⟨gd, rfl, hg⟩ := rowE h3
  have e := Dt.intE h2
  subst e
  exact ⟨a, st, gd, vs, rfl, hs, hst, hvs, hg⟩
theorem rowsE {vs : List V} {M : Mac} {s : Nat} (h : DtAll K H vs (M.steps.map rowD)) (hs : s < M.steps.length) : ∃ p, vs[s]? = some (.ref p) ∧ SqT K H p ((M.steps.getD s []).map iV) := by
  obtain ⟨w, h1, h2⟩ := h.get (i := s) (d := rowD M.steps[s]) (by rw [List.getElem?_map, List.getElem?_eq_getElem hs]; rfl)
  obtain ⟨p, rfl, hp⟩ := rowE h2
  refine ⟨p, h1, ?_⟩
  rw [List.getD_eq_getElem?_getD, List.getElem?_eq_getElem hs]
  exact hp
theorem at_nat {r : List Nat} {z : Int} {j : Nat} (e : z = (j : Int)) (h : j < r.length) : atI (r.map iV) z = some (iV (r.getD j 0)) := by
  refine at_of e ?_
  rw [List.getElem?_map, List.getD_eq_getElem?_getD, List.getElem?_eq_getElem h]
  rfl
end
theorem let_ix {c m : Nat} (h0 : 97 ≤ c) (h1 : c < 97 + m) (hm : m ≤ 4) : [97, 98, 99, 100][c - 97]? = some c := by
  have h : c = 97 ∨ c = 98 ∨ c = 99 ∨ c = 100 := by omega
  rcases h with rfl | rfl | rfl | rfl <;> rfl
theorem inV_nat (k : Nat) (g : List Nat) : inV (iV k) (g.map iV) = decide (k ∈ g) := by
  unfold inV
  rw [List.any_map]
  by_cases h : k ∈ g
  · rw [decide_eq_true h]
    exact List.any_eq_true.mpr ⟨k, h, by show ((k : Int) == (k : Int)) = true; exact beq_self_eq_true _⟩
  · rw [decide_eq_false h]
    refine List.any_eq_false.mpr fun y hy e => h ?_
    have e2 : ((y : Int) == (k : Int)) = true := e
    have e3 : (y : Int) = (k : Int) := eq_of_beq e2
    have : y = k := by omega
    rw [← this]; exact hy
theorem flat_nats (g : List Nat) : (g.map iV).all flatV = true := by
  refine List.all_eq_true.mpr fun x hx => ?_
  obtain ⟨n, _, rfl⟩ := List.mem_map.mp hx
  rfl
def spLead (K : PySem.W.Frag) : Sp := fun vs H Q _ => ∃ (v : V) (M : Mac) (n m s : Nat) (w : List Nat), vs = [v, iV s, sV w] ∧ Dt K H v (macD M) ∧ MacOk M n m ∧ m ≤ 4 ∧ s < n ∧ isW m w ∧ Q (iV (leadM M s w)) H
def spAcc (K : PySem.W.Frag) : Sp := fun vs H Q _ => ∃ (v : V) (M : Mac) (n m : Nat) (w : List Nat), vs = [v, sV w] ∧ Dt K H v (macD M) ∧ MacOk M n m ∧ m ≤ 4 ∧ isW m w ∧ Q (.bl (accM M w)) H
def abcdG (m : Nat) : List Nat := List.take m [97, 98, 99, 100]
theorem abcdG_len {m : Nat} (h : m ≤ 4) : (abcdG m).length = m := by
  unfold abcdG
  rw [List.length_take]
  exact Nat.min_eq_left h
def spLetters (K : PySem.W.Frag) : Sp := fun vs H Q _ => ∃ (v : V) (M : Mac) (n m : Nat), vs = [v] ∧ Dt K H v (macD M) ∧ MacOk M n m ∧ 1 ≤ n ∧ m ≤ 4 ∧ Q (sV (abcdG m)) H
def spWord (K : PySem.W.Frag) : Sp := fun vs H Q _ => ∃ (c : Int) (m : Nat), vs = [.int c, .int (m : Int)] ∧ 1 ≤ m ∧ m ≤ 4 ∧
  ∀ (H' : Hp) (w : List Nat), Same H H' → w.length ≤ 14 → isW m w → Q (sV w) H'
theorem foldl_signs : ∀ (cs : List Nat) (acc : Array Nat), (cs.map fun c => (⟨#[c]⟩ : Str)).foldl (fun acc p => acc ++ (⟨#[]⟩ : Str).cps ++ p.cps) acc = acc ++ cs.toArray
  | [], acc => by simp
  | c :: cs, acc => by
    rw [List.map_cons, List.foldl_cons, foldl_signs cs]
    apply Array.ext'
    simp
theorem join_signs (cs : List Nat) : Txt.join (Str.ofString "") (cs.map fun c => (⟨#[c]⟩ : Str)) = ⟨cs.toArray⟩ := by
  have e0 : Str.ofString "" = (⟨#[]⟩ : Str) := by decide +kernel
  rw [e0]
  cases cs with
  | nil => rfl
  | cons c cs =>
    show (⟨((cs.map fun c => (⟨#[c]⟩ : Str)).foldl (fun acc p => acc ++ (⟨#[]⟩ : Str).cps ++ p.cps) #[c])⟩ : Str) = ⟨(c :: cs).toArray⟩
    rw [foldl_signs]
    congr 1
    apply Array.ext'
    simp
theorem cutV_map {α : Type} (f : α → V) (xs : List α) (lo hi : Option Int) : ∃ ys : List α, cutV (xs.map f) lo hi = ys.map f ∧ ys.length ≤ xs.length ∧ ∀ y ∈ ys, y ∈ xs := by
  refine ⟨(xs.drop (HT.sIx (xs.map f).length 0 lo)).take (HT.sIx (xs.map f).length (xs.map f).length hi - HT.sIx (xs.map f).length 0 lo), ?_, ?_, fun y hy => List.mem_of_mem_drop (List.mem_of_mem_take hy)⟩
  · unfold cutV
    rw [List.map_take, List.map_drop]
  · rw [List.length_take, List.length_drop]
    omega
theorem r_in {K : PySem.W.Frag} {H : Hp} {Q : VK} {k : Nat} {g : List Nat} {p : Addr} (h : SqT K H p (g.map iV)) (q : Q (.bl (decide (k ∈ g))) H) : rIn K false (iV k) (.ref p) H Q := ⟨p, _, rfl, .inr h, rfl, flat_nats g, by rw [← inV_nat] at q; exact q⟩
section
variable {σ : L2.St} {H : Hp} {Q : VK} {K : PySem.W.Frag} {ta tb tc : TE}
def rInSg : R2 := fun x y H Q => ∃ (c : Nat) (z : Str), x = .str ⟨#[c]⟩ ∧ y = .str z ∧ Q (.bl (decide (c ∈ z.cps.toList))) H
def rNotInSg : R2 := fun x y H Q => ∃ (c : Nat) (z : Str), x = .str ⟨#[c]⟩ ∧ y = .str z ∧ Q (.bl (!decide (c ∈ z.cps.toList))) H
theorem op_inSg {X : Cx} : OpR X (compareOp .In) rInSg := op_in_sign
theorem op_notInSg {X : Cx} : OpR X (compareOp .NotIn) rNotInSg := op_notIn_sign
theorem r_inSg {c : Nat} {l : List Nat} (q : Q (.bl (decide (c ∈ l))) H) : rInSg (.str ⟨#[c]⟩) (.str ⟨l.toArray⟩) H Q := ⟨c, _, rfl, rfl, q⟩
theorem r_notInSg {c : Nat} {l : List Nat} (q : Q (.bl (!decide (c ∈ l))) H) : rNotInSg (.str ⟨#[c]⟩) (.str ⟨l.toArray⟩) H Q := ⟨c, _, rfl, rfl, q⟩
theorem r_chain {r r' : R2} (h : ta σ H fun x H1 => tb σ H1 fun y H2 => r x y H2 fun z H3 => ∃ k, z = .bl k ∧ if k = true then tc σ H3 fun w' H4 => r' y w' H4 Q else Q (.bl false) H3) : tChain r r' ta tb tc σ H Q := h
theorem r_slT {p : Addr} {xs : List V} {lo hi : Option Int} (h : SqT K H p xs) (c : ¬ (HT.sIx xs.length 0 lo = 0 ∧ HT.sIx xs.length xs.length hi = xs.length)) (q : ∀ l, H l = none → Q (.ref l) (upd H l (.tup (cutV xs lo hi)))) : rSlT K (.ref p) lo hi H Q := ⟨p, xs, rfl, h, c, q⟩
theorem r_any {p : Addr} {bs : List Bool} (h : SqL K H p (bs.map V.bl)) (q : Q (.bl (bs.any id)) H) : rAny K [.ref p] H Q := ⟨p, bs, rfl, h, q⟩
theorem r_eqD {x y : V} {d e : PyData} (h1 : Dp K H x d) (h2 : Dp K H y e) (s1 : SeqAt.shaped d = true) (s2 : SeqAt.shaped e = true) (q : Q (.bl (PyData.eqv d e)) H) : rEqD K x y H Q := ⟨d, e, h1, h2, s1, s2, q⟩
theorem r_neD {x y : V} {d e : PyData} (h1 : Dp K H x d) (h2 : Dp K H y e) (s1 : SeqAt.shaped d = true) (s2 : SeqAt.shaped e = true) (q : Q (.bl (!PyData.eqv d e)) H) : rNeD K x y H Q := ⟨d, e, h1, h2, s1, s2, q⟩
end
theorem lay_ints : ∀ A : List Int, PyData.canLayAll0 (A.map .int) = true
  | [] => rfl
  | a :: A => by
    have ih := lay_ints A
    simp [PyData.canLayAll0, PyData.canLay0] at ih ⊢
    exact ih
theorem eqv_ints_all : ∀ A B : List Int, PyData.eqvAll (A.map .int) (B.map .int) = decide (A = B)
  | [], [] => rfl
  | [], b :: B => rfl
  | a :: A, [] => rfl
  | a :: A, b :: B => by
    show (a == b && PyData.eqvAll (A.map .int) (B.map .int)) = _
    rw [eqv_ints_all A B]
    by_cases h : a = b
    · subst h
      by_cases h2 : A = B
      · subst h2; simp
      · simp [h2]
    · simp [h]
theorem depth_ints : ∀ A : List Int, PyData.depthAll (A.map .int) = 0
  | [] => rfl
  | a :: A => by
    have ih := depth_ints A
    show max 0 _ = 0
    rw [ih]
    rfl
theorem shaped_ints (A : List Int) : SeqAt.shaped (.list (A.map .int)) = true := by
  refine Bool.and_eq_true_iff.mpr ⟨lay_ints A, decide_eq_true ?_⟩
  show PyData.depthAll _ + 1 ≤ 64
  rw [depth_ints]
  decide
theorem eqv_lists (A B : List Int) : PyData.eqv (.list (A.map .int)) (.list (B.map .int)) = decide (A = B) := by
  rw [PyData.eqv]
  exact eqv_ints_all A B
theorem dp_ints {K : PySem.W.Frag} {H : Hp} {p : Addr} {A : List Int} (h : SqL K H p (A.map V.int)) : Dp K H (.ref p) (.list (A.map .int)) := .lst h (dpAll_map (fun i => .int i) A)
theorem cut_1 (xs : List V) : cutV xs (some 1) none = xs.drop 1 := cut_drop xs 1
theorem six_1 (n : Nat) : HT.sIx n 0 (some 1) = min 1 n := HT.sIx_nat n 0 1
/-- the ways behind a statement are joined: what holds there -/
theorem r_cutJ {t u : TS} {D : Ends} {σ : L2.St} {H : Hp} (J : L2.St → Hp → Prop) (key : ∀ σ H, J σ H → u D σ H) (h : (∀ σ H, J σ H → u D σ H) → t { D with nx := u D } σ H) : tSeq t u D σ H := h key
theorem six_m1 (n d : Nat) : HT.sIx n d (some (-1)) = n - 1 := by
  show (if (-1 : Int) < 0 then ((-1 : Int) + (n : Int)).toNat else min (-1 : Int).toNat n) = n - 1
  rw [if_pos (by decide)]
  omega
theorem cut_init (xs : List V) (y : V) : cutV (xs ++ [y]) none (some (-1)) = xs := by
  unfold cutV
  rw [HT.sIx_none, six_m1, List.length_append]
  simp
theorem cut_mid (xs : List V) (j : Nat) : (cutV xs (some (j : Int)) (some (-1))).length = xs.length - 1 - j := by
  unfold cutV
  rw [HT.sIx_nat, six_m1, List.length_take, List.length_drop]
  omega
theorem cut_to (xs : List V) (k : Nat) (h : k ≤ xs.length) : cutV xs none (some (k : Int)) = xs.take k := by
  unfold cutV
  rw [HT.sIx_none, HT.sIx_nat, Nat.min_eq_left h]
  rfl
theorem inV_int (k : Int) (g : List Int) : inV (.int k) (g.map V.int) = decide (k ∈ g) := by
  unfold inV
  rw [List.any_map]
  by_cases h : k ∈ g
  · rw [decide_eq_true h]
    exact List.any_eq_true.mpr ⟨k, h, by show (k == k) = true; exact beq_self_eq_true _⟩
  · rw [decide_eq_false h]
    refine List.any_eq_false.mpr fun y hy e => h ?_
    have e2 : (y == k) = true := e
    rw [← eq_of_beq e2]; exact hy
theorem flat_ints (g : List Int) : (g.map V.int).all flatV = true := by
  refine List.all_eq_true.mpr fun x hx => ?_
  obtain ⟨n, _, rfl⟩ := List.mem_map.mp hx
  rfl
section
variable {K : PySem.W.Frag} {H : Hp} {Q : VK} {p : Addr}
theorem r_inT {k : Int} {g : List Int} (h : SqT K H p (g.map V.int)) (q : Q (.bl (decide (k ∈ g))) H) : rIn K false (.int k) (.ref p) H Q := ⟨p, _, rfl, .inr h, rfl, flat_ints g, by rw [← inV_int] at q; exact q⟩
theorem r_inL {k : Int} {g : List Int} (h : SqL K H p (g.map V.int)) (q : Q (.bl (decide (k ∈ g))) H) : rIn K false (.int k) (.ref p) H Q := ⟨p, _, rfl, .inl h, rfl, flat_ints g, by rw [← inV_int] at q; exact q⟩
theorem mt_indexLK {X : Cx} (hK : X.K = K) : MtR X "list.index" (rIndex K) := hK ▸ mt_index
theorem r_indexL {k : Int} {g : List Int} (h : SqL K H p (g.map V.int)) (hk : k ∈ g) (q : Q (.int (g.idxOf k : Nat)) H) : rIndex K (.ref p) [.int k] H Q := by
  have hl := List.idxOf_lt_length_of_mem hk
  refine ⟨p, _, .int k, g.idxOf k, .int k, rfl, rfl, h, rfl, flat_ints g, ?_, ?_, fun m z' hm hz => ?_, q⟩
  · rw [List.getElem?_map, List.getElem?_eq_getElem hl, List.getElem_idxOf hl]
    rfl
  · show (k == k) = true
    exact beq_self_eq_true _
  · rw [List.getElem?_map] at hz
    obtain ⟨y, hy, rfl⟩ := Option.map_eq_some_iff.mp hz
    show (y == k) = false
    obtain ⟨hml, ey⟩ := List.getElem?_eq_some_iff.mp hy
    have := List.not_of_lt_findIdx (p := (· == k)) (xs := g) (i := m) hm
    rw [ey] at this
    simpa using this
theorem r_rep {l : Addr} {k : Int} {xs : List V} (h : H l = some (.lst xs)) (h0 : 0 ≤ k) (h1 : k ≤ 1000000) (hl : xs.length * k.toNat ≤ sizeLine) (q : ∀ p, H p = none → Q (.ref p) (upd H p (.lst (List.replicate k.toNat xs).flatten))) : rRep (.ref l) (.int k) H Q := ⟨l, k, xs, rfl, rfl, h, by omega, by omega, hl, q⟩
end
def sgD (c : Nat) : PyData := .str ⟨#[c]⟩
def sgV (c : Nat) : V := .str ⟨#[c]⟩
theorem lay_signs : ∀ A : List Nat, (∀ c ∈ A, c < 1000) → PyData.canLayAll0 (A.map sgD) = true
  | [], _ => rfl
  | a :: A, h => by
    have ih := lay_signs A fun c hc => h c (List.mem_cons_of_mem _ hc)
    have ha := h a List.mem_cons_self
    show (PyData.strOk ⟨#[a]⟩ && PyData.canLayAll0 (A.map sgD)) = true
    rw [ih, Bool.and_true]
    unfold PyData.strOk
    simp
    omega
theorem depth_signs : ∀ A : List Nat, PyData.depthAll (A.map sgD) = 0
  | [] => rfl
  | a :: A => by
    have ih := depth_signs A
    show max 0 _ = 0
    rw [ih]
    rfl
theorem shaped_signs {A : List Nat} (h : ∀ c ∈ A, c < 1000) : SeqAt.shaped (.list (A.map sgD)) = true := by
  refine Bool.and_eq_true_iff.mpr ⟨lay_signs A h, decide_eq_true ?_⟩
  show PyData.depthAll _ + 1 ≤ 64
  rw [depth_signs]
  decide
theorem eqv_signs_nil (A : List Nat) : PyData.eqv (.list (A.map sgD)) (.list []) = decide (A = []) := by
  rw [PyData.eqv]
  cases A <;> rfl
theorem dp_signs {K : PySem.W.Frag} {H : Hp} {p : Addr} {A : List Nat} (h : SqL K H p (A.map sgV)) : Dp K H (.ref p) (.list (A.map sgD)) := .lst h (dpAll_map (fun c => .str _) A)
end G
set_option Elab.async false
set_option linter.all false
set_option maxRecDepth 100000
set_option maxHeartbeats 4000000
namespace G
open PySem PySem.Spec PyProof.Rows L2
def tLenSetT (K : PySem.W.Frag) (ta : TE) : TE := fun σ H Q => ta σ H fun x H1 =>
  ∃ (l : Addr) (ns : List Int), x = .ref l ∧ SqT K H1 l (ns.map V.int) ∧ ns.length ≤ 4000 ∧
  ∀ ks : List Int, ks.Nodup → (∀ k, k ∈ ks ↔ k ∈ ns) → Q (.int (ks.length : Nat)) H1
theorem pe_lenSetT {X : Cx} {K : PySem.W.Frag} {a : Expr} {ta : TE} {p p2 q pos : Pos} (hK : X.K = K) (hc : X.calm = true)
    (hg : Gl X "len") (hm : X.mg "len" = none) (hg2 : Gl X "set") (hm2 : X.mg "set" = none) (ha : PE X a ta)
    (na : starEach [a] X.env = (false, eval a X.env) :: starEach [] X.env := by rfl) :
    PE X (.Call (.Name "len" p) [.Call (.Name "set" p2) [a] [] q] [] pos) (tLenSetT K ta) := by
  subst hK
  constructor
  intro pins s σ H Q I h
  refine Call_ (ld_blt I hg hm boot_len (callWith_builtin1 (args_cons ?_ rfl) rfl rfl))
  refine Call_ (ld_blt I hg2 hm2 boot_set ?_)
  refine callWith_type1 (args_cons (thn (ha.run pins s σ H _ I h) ?_) na) na rfl
  rintro v s1 ⟨x, H1, I1, r1, l, ns, rfl, hq, hl, q1⟩
  refine args_nil ?_
  cases r1
  obtain ⟨its, r, pl, hz⟩ := I1.tuple hq
  have hi : IntsAre its.toArray.toList ns := ints_of_vals r
  refine call_set_tupI ns (I1.ok.hd hc) (show s1.heap.IsTuple l its.toArray from pl) hi (by unfold scanBound; omega) ?_
  rintro h' tk c ⟨o, es, ep, t, ho, hex, hd, g, nd, hmem, hb, hf, hn, _, _⟩ hcn kk
  refine args_nil ?_
  have I2 : Inv X pins σ H1 { s1 with heap := h', toks := tk } := I1.kept kk
  have e1 : (es.toList.map keyOf).length = es.size := by rw [List.length_map, Array.length_toList]
  have q2 := q1 (es.toList.map keyOf) nd (fun k => ⟨fun hk => of_decide_eq_true ((hmem k).mpr hk), fun hk => (hmem k).mp (decide_eq_true hk)⟩)
  rw [e1] at q2
  exact call_len_set ho hex hd hf (by unfold scanBound at hb; omega) ⟨.int es.size, H1, I2.tok _, ⟨_, rfl⟩, q2⟩
theorem pa_starK {X : Cx} {K : PySem.W.Frag} {e : Expr} {es : List Expr} {te : TE} {t : TA} {p : Pos} (hK : X.K = K) (he : PE X e te) (hr : PA X es t)
    (hs : starEach (.Starred e p :: es) X.env = (true, eval e X.env) :: starEach es X.env := by rfl) : PA X (.Starred e p :: es) (StX.tStar K te t) := hK ▸ StX.pa_star he hr hs
theorem r_star {K : PySem.W.Frag} {σ : L2.St} {H : Hp} {te : TE} {t : TA} {QA : List V → Hp → Prop} (h : te σ H fun x H1 => ∃ p xs, x = V.ref p ∧ (SqT K H1 p xs ∨ SqL K H1 p xs) ∧ t σ H1 fun ys H2 => QA (xs ++ ys) H2) : StX.tStar K te t σ H QA := h
theorem pe_revLK {X : Cx} {K : PySem.W.Frag} {e : Expr} {te : TE} {k : Nat} {p1 p2 p3 pos : Pos} (hK : X.K = K) (he : PE X e te) : PE X (.Subscript e (.Slice none none (some (.UnaryOp .USub (.Constant (.int 1) k p1) p2)) p3) pos) (tRevL K te) := hK ▸ pe_revL he
end G
namespace L21
open PySem PySem.Spec PyProof.Rows L2 G
local macro_rules | `(tactic| walk_at "rd1") => `(tactic| first
  | (with_reducible refine r_seq ?_) | (with_reducible refine r_set ?_)
  | ((with_reducible refine' r_var ?rdh ?_); (case rdh => exact rfl))
  | (with_reducible refine r_c ?_) | (with_reducible refine r_op ?_) | (with_reducible refine r_un ?_) | (with_reducible refine r_cb ?_)
  | (with_reducible refine r_cons ?_) | (with_reducible refine r_nil ?_) | (with_reducible refine r_call ?_)
  | (with_reducible refine r_test ?_) | (with_reducible refine r_tb ?_) | (with_reducible refine r_bl ?_)
  | (with_reducible refine r_if ?_) | (with_reducible refine r_yes ?_) | (with_reducible refine r_ifx ?_) | (with_reducible refine r_and ?_) | (with_reducible refine r_or ?_) | (with_reducible refine r_not ?_)
  | (with_reducible refine r_andV ?_) | (with_reducible refine r_orV ?_) | (with_reducible refine r_notV ?_)
  | (with_reducible refine r_ret ?_) | (with_reducible refine r_retN ?_) | (with_reducible refine r_next ?_) | (with_reducible refine r_drop ?_) | (with_reducible refine r_asg ?_)
  | (with_reducible refine r_tup ?_) | (with_reducible refine r_lst ?_)
  | (with_reducible refine r_I0 ?_) | (with_reducible refine r_U ?_) | (with_reducible refine r_eqI ?_) | (with_reducible refine r_neI ?_) | (with_reducible refine r_eqS ?_) | (with_reducible refine r_neS ?_) | (with_reducible refine r_eqB ?_) | (with_reducible refine r_neB ?_)
  | (with_reducible refine r_int1 ?_) | (with_reducible refine r_isN ?_) | (with_reducible refine r_notN ?_)
  | (with_reducible refine iteT ?_) | (with_reducible refine iteF ?_)
  | (with_reducible refine r_sl ?_) | (with_reducible refine r_noPart ?_) | (with_reducible refine r_part ?_) | (with_reducible refine r_pint ?_)
  | ((with_reducible refine' r_isi (.ty _) ?rdt ?rdk ?_); (case rdt => first | exact .base (.int _) | exact .base (.str _) | exact .base (.bl _) | exact .base .non | exact tyx_sqL (by assumption) | exact tyx_sqT (by assumption)); (case rdk => first | exact kt_NoneType_list | exact kt_NoneType_tuple | exact kt_NoneType_bool | exact kt_NoneType_int | exact kt_NoneType_str | exact kt_bool_list | exact kt_bool_tuple | exact kt_bool_bool | exact kt_bool_int | exact kt_bool_str | exact kt_int_list | exact kt_int_tuple | exact kt_int_bool | exact kt_int_int | exact kt_int_str | exact kt_str_list | exact kt_str_tuple | exact kt_str_bool | exact kt_str_int | exact kt_str_str | exact kt_list_list | exact kt_list_tuple | exact kt_list_bool | exact kt_list_int | exact kt_list_str | exact kt_tuple_list | exact kt_tuple_tuple | exact kt_tuple_bool | exact kt_tuple_int | exact kt_tuple_str))
  | (with_reducible refine r_gn ?_) | (with_reducible refine r_gsub ?_) | (with_reducible refine r_chain ?_) | (with_reducible refine r_inSg ?_) | (with_reducible refine r_notInSg ?_) | (with_reducible refine r_bmS ?_) | ((with_reducible show tLc _ _ _ _ _ _ _ _); (first | show iStr _ _ _ _ | show iList _ _ _ _ _ | show iTup _ _ _ _ _ | show iRng1 _ _ _ _ | show iRng2 _ _ _ _)) | (with_reducible refine r_iStr ?_) | (with_reducible refine r_iList ?_) | (with_reducible refine r_iTup ?_) | (with_reducible refine r_str1 ?_) | (with_reducible refine r_ref1 ?_)
  | (with_reducible refine iteNT ?_) | (with_reducible refine iteNF ?_)
  | (with_reducible refine r_fdiv ⟨by decide, by decide⟩ ?_) | (with_reducible refine r_mod (by first | decide | assumption) ?_) | (with_reducible refine r_mul (.inr ⟨by decide, by decide⟩) ?_) | (with_reducible refine r_mul (.inl ⟨by decide, by decide⟩) ?_) | (with_reducible refine r_pow ⟨by decide, by decide, by decide⟩ ?_)
  | ((with_reducible show tFor _ _ _ _ _ _); (first | show iStr _ _ _ _ | show iList _ _ _ _ _ | show iTup _ _ _ _ _ | show iRng1 _ _ _ _ | show iRng2 _ _ _ _)) | (with_reducible refine r_rng1 ?_) | (with_reducible refine r_bmL ?_) | (with_reducible refine r_break ?_) | (with_reducible refine r_cont ?_))
local macro_rules | `(tactic| walk_at "rd") => `(tactic| repeat walk_at "rd1")
section
def topS (i : Nat) : Stmt := PySem.Challenge.pw_turnsandthrows_k21_is_ring.main.body.getD i (.Pass ⟨0, 0, 0, 0⟩)
abbrev s_l_cell : Stmt := topS 7
abbrev N_l_cell : List Str := ["script", "k"]
theorem sc_l_cell : FnScope N_l_cell ["script", "k"] (defScope s_l_cell) := ⟨rfl, rfl, rfl, by decide +kernel, rfl, by decide +kernel, by decide +kernel⟩
abbrev s_l_numbers : Stmt := topS 8
abbrev N_l_numbers : List Str := ["cell", "count", "numbers", "k", "mixed"]
theorem sc_l_numbers : FnScope N_l_numbers ["cell", "count"] (defScope s_l_numbers) := ⟨rfl, rfl, rfl, by decide +kernel, rfl, by decide +kernel, by decide +kernel⟩
abbrev s_l_action : Stmt := topS 9
abbrev N_l_action : List Str := ["numbers", "count", "sort", "action", "k", "j", "held"]
theorem sc_l_action : FnScope N_l_action ["numbers", "count"] (defScope s_l_action) := ⟨rfl, rfl, rfl, by decide +kernel, rfl, by decide +kernel, by decide +kernel⟩
abbrev s_l_machine : Stmt := topS 10
abbrev N_l_machine : List Str := ["cell", "count", "letters", "numbers", "actions", "steps", "good", "k", "state", "action"]
theorem sc_l_machine : FnScope N_l_machine ["cell", "count", "letters"] (defScope s_l_machine) := ⟨rfl, rfl, rfl, by decide +kernel, rfl, by decide +kernel, by decide +kernel⟩
abbrev s_l_lead : Stmt := topS 11
abbrev N_l_lead : List Str := ["machine", "state", "word", "letter"]
theorem sc_l_lead : FnScope N_l_lead ["machine", "state", "word"] (defScope s_l_lead) := ⟨rfl, rfl, rfl, by decide +kernel, rfl, by decide +kernel, by decide +kernel⟩
abbrev s_lead : Stmt := topS 3
abbrev N_lead : List Str := ["machine", "state", "word", "steps", "letter"]
theorem sc_lead : FnScope N_lead ["machine", "state", "word"] (defScope s_lead) := ⟨rfl, rfl, rfl, by decide +kernel, rfl, by decide +kernel, by decide +kernel⟩
abbrev s_letters_of : Stmt := topS 2
abbrev N_letters_of : List Str := ["machine"]
theorem sc_letters_of : FnScope N_letters_of ["machine"] (defScope s_letters_of) := ⟨rfl, rfl, rfl, by decide +kernel, rfl, by decide +kernel, by decide +kernel⟩
abbrev s_l_word : Stmt := topS 14
abbrev N_l_word : List Str := ["cell", "letters", "numbers", "size", "number"]
theorem sc_l_word : FnScope N_l_word ["cell", "letters"] (defScope s_l_word) := ⟨rfl, rfl, rfl, by decide +kernel, rfl, by decide +kernel, by decide +kernel⟩
abbrev s_is_ring : Stmt := topS 5
abbrev N_is_ring : List Str := ["machine", "word", "states", "letters", "count", "letter", "state"]
theorem sc_is_ring : FnScope N_is_ring ["machine", "word", "states"] (defScope s_is_ring) := ⟨rfl, rfl, rfl, by decide +kernel, rfl, by decide +kernel, by decide +kernel⟩
abbrev s_l_around : Stmt := topS 15
abbrev N_l_around : List Str := ["machine", "state", "word", "row", "k"]
theorem sc_l_around : FnScope N_l_around ["machine", "state", "word"] (defScope s_l_around) := ⟨rfl, rfl, rfl, by decide +kernel, rfl, by decide +kernel, by decide +kernel⟩
abbrev s_l_is_right : Stmt := topS 16
abbrev N_l_is_right : List Str := ["machine", "word", "states", "k", "char"]
theorem sc_l_is_right : FnScope N_l_is_right ["machine", "word", "states"] (defScope s_l_is_right) := ⟨rfl, rfl, rfl, by decide +kernel, rfl, by decide +kernel, by decide +kernel⟩
abbrev s_l_spoilt : Stmt := topS 17
abbrev N_l_spoilt : List Str := ["states", "numbers", "count", "sort", "row", "at"]
theorem sc_l_spoilt : FnScope N_l_spoilt ["states", "numbers", "count"] (defScope s_l_spoilt) := ⟨rfl, rfl, rfl, by decide +kernel, rfl, by decide +kernel, by decide +kernel⟩
abbrev s_law : Stmt := topS 18
abbrev N_law : List Str := ["script", "numbers", "count", "letters", "machine", "k", "draws", "word", "states", "told", "state", "j"]
theorem sc_law : FnScope N_law ["script"] (defScope s_law) := ⟨rfl, rfl, rfl, by decide +kernel, rfl, by decide +kernel, by decide +kernel⟩
structure Ad where
  f_l_cell : Addr
  d_l_cell : FuncData
  f_l_numbers : Addr
  d_l_numbers : FuncData
  f_l_action : Addr
  d_l_action : FuncData
  f_l_machine : Addr
  d_l_machine : FuncData
  f_l_lead : Addr
  d_l_lead : FuncData
  f_lead : Addr
  d_lead : FuncData
  f_letters_of : Addr
  d_letters_of : FuncData
  f_l_word : Addr
  d_l_word : FuncData
  f_is_ring : Addr
  d_is_ring : FuncData
  f_l_around : Addr
  d_l_around : FuncData
  f_l_is_right : Addr
  d_l_is_right : FuncData
  f_l_spoilt : Addr
  d_l_spoilt : FuncData
  f_law : Addr
  d_law : FuncData
structure Txt (K : PySem.W.Frag) (mg : Str → Option Value) (a : Ad) : Prop where
  F_l_cell : Fun K "_law_cell" "_law_cell" s_l_cell a.f_l_cell a.d_l_cell
  b_l_cell : Binds K a.d_l_cell ["script", "k"] []
  g_l_cell : mg "_law_cell" = some (.ref a.f_l_cell)
  F_l_numbers : Fun K "_law_numbers" "_law_numbers" s_l_numbers a.f_l_numbers a.d_l_numbers
  b_l_numbers : Binds K a.d_l_numbers ["cell", "count"] []
  g_l_numbers : mg "_law_numbers" = some (.ref a.f_l_numbers)
  F_l_action : Fun K "_law_action" "_law_action" s_l_action a.f_l_action a.d_l_action
  b_l_action : Binds K a.d_l_action ["numbers", "count"] []
  g_l_action : mg "_law_action" = some (.ref a.f_l_action)
  F_l_machine : Fun K "_law_machine" "_law_machine" s_l_machine a.f_l_machine a.d_l_machine
  b_l_machine : Binds K a.d_l_machine ["cell", "count", "letters"] []
  g_l_machine : mg "_law_machine" = some (.ref a.f_l_machine)
  F_l_lead : Fun K "_law_lead" "_law_lead" s_l_lead a.f_l_lead a.d_l_lead
  b_l_lead : Binds K a.d_l_lead ["machine", "state", "word"] []
  g_l_lead : mg "_law_lead" = some (.ref a.f_l_lead)
  F_lead : Fun K "lead" "lead" s_lead a.f_lead a.d_lead
  b_lead : Binds K a.d_lead ["machine", "state", "word"] []
  g_lead : mg "lead" = some (.ref a.f_lead)
  F_letters_of : Fun K "letters_of" "letters_of" s_letters_of a.f_letters_of a.d_letters_of
  b_letters_of : Binds K a.d_letters_of ["machine"] []
  g_letters_of : mg "letters_of" = some (.ref a.f_letters_of)
  F_l_word : Fun K "_law_word" "_law_word" s_l_word a.f_l_word a.d_l_word
  b_l_word : Binds K a.d_l_word ["cell", "letters"] []
  g_l_word : mg "_law_word" = some (.ref a.f_l_word)
  F_is_ring : Fun K "is_ring" "is_ring" s_is_ring a.f_is_ring a.d_is_ring
  b_is_ring : Binds K a.d_is_ring ["machine", "word", "states"] []
  g_is_ring : mg "is_ring" = some (.ref a.f_is_ring)
  F_l_around : Fun K "_law_around" "_law_around" s_l_around a.f_l_around a.d_l_around
  b_l_around : Binds K a.d_l_around ["machine", "state", "word"] []
  g_l_around : mg "_law_around" = some (.ref a.f_l_around)
  F_l_is_right : Fun K "_law_is_right" "_law_is_right" s_l_is_right a.f_l_is_right a.d_l_is_right
  b_l_is_right : Binds K a.d_l_is_right ["machine", "word", "states"] []
  g_l_is_right : mg "_law_is_right" = some (.ref a.f_l_is_right)
  F_l_spoilt : Fun K "_law_spoilt" "_law_spoilt" s_l_spoilt a.f_l_spoilt a.d_l_spoilt
  b_l_spoilt : Binds K a.d_l_spoilt ["states", "numbers", "count"] []
  g_l_spoilt : mg "_law_spoilt" = some (.ref a.f_l_spoilt)
  F_law : Fun K "law" "law" s_law a.f_law a.d_law
  b_law : Binds K a.d_law ["script"] []
  g_law : mg "law" = some (.ref a.f_law)
  z_any : mg "any" = none
  z_bool : mg "bool" = none
  z_int : mg "int" = none
  z_isinstance : mg "isinstance" = none
  z_len : mg "len" = none
  z_list : mg "list" = none
  z_range : mg "range" = none
  z_set : mg "set" = none
  z_sorted : mg "sorted" = none
  z_tuple : mg "tuple" = none
  c_LETTERS : ∃ t, mg "LETTERS" = some (Value.str "abcd" t)
end

section
variable {P : Program} {w : World} {K : PySem.W.Frag} {mg : Str → Option Value} {base : Heap} {a : Ad}
theorem ok_l_cell (T : Txt K mg a) : FnOk P w K mg base CX0 1 a.f_l_cell a.d_l_cell ["script", "k"] (spCellG K) := by
  refine T.F_l_cell.ok sc_l_cell (fun vs H Q E h => ?_) (fun cdv A outer s H vs Q E hr h => ?_)
  · obtain ⟨l, ns, k, rfl, _⟩ := h
    rfl
  · obtain ⟨l, ns, k, rfl, hS, h0, q⟩ := h
    refine ⟨_, (pss_cons (ps_if (pt_cmpR op_lt (pv 1) (pe_callB (call_lenQK (K := K) rfl) (by rfl) T.z_len (by decide +kernel) (pa_cons (pv 0) pa_nil)) (nomark _)) (pss_one (ps_ret (pe_ix (ix_listK (K := K) rfl) (pv 0) (pv 1) (fun _ _ => rfl)))) pss_nil)
      (pss_one (ps_ret pe_int))), ?_⟩
    walk_at "rd"
    refine r_lenL hS ?_
    walk_at "rd"
    rw [List.length_map]
    refine r_iteD (fun hk => ?_) (fun hk => ?_)
    · walk_at "rd"
      have hk' : k.toNat < ns.length := by omega
      refine r_ixL hS (at_of (j := k.toNat) (by omega) (by rw [List.getElem?_map, List.getElem?_eq_getElem hk']; rfl)) ?_
      have e : cellV ns k = ns[k.toNat] := by unfold cellV; rw [List.getD_eq_getElem?_getD, List.getElem?_eq_getElem hk']; rfl
      rw [e] at q
      exact q
    · walk_at "rd"
      have e : cellV ns k = 0 := by unfold cellV; rw [List.getD_eq_getElem?_getD, List.getElem?_eq_none (by omega)]; rfl
      rw [e] at q
      exact q

theorem ok_l_numbers (T : Txt K mg a) : FnOk P w K mg base CX0 1 a.f_l_numbers a.d_l_numbers ["cell", "count"] (spNums K) := by
  refine T.F_l_numbers.ok sc_l_numbers (fun vs H Q E h => ?_) (fun cdv A outer s H vs Q E hr h => ?_)
  · obtain ⟨c, n, rfl, _⟩ := h
    rfl
  · obtain ⟨c, n, rfl, hn, q⟩ := h
    refine ⟨_, (pss_cons (ps_set (i := 2) sc_l_numbers.nd rfl (Or.inl rfl) (pe_lst pa_nil))
      (pss_cons (ps_if (pt_cmpR op_ge (pv 0) (pe_op op_pow pe_int pe_int) (nomark _)) (pss_cons (ps_for PassesOwn.never rfl (pi_range1 (by rfl) T.z_range (pa_cons (pv 1) pa_nil)) (pg_name (i := 3) sc_l_numbers.nd rfl (Or.inl rfl)) (pss_cons (ps_expr (bmK (K := K) rfl (pe_bm PySem.F.plainAttrs_list PySem.F.slot_list_append PySem.F.type_list_append mt_append (pv 2) (pa_cons (pe_op op_mod (pe_callTy call_int1' (by rfl) T.z_int (by decide +kernel) (pa_cons (pv 0) pa_nil)) pe_int) pa_nil))))
      (pss_one (ps_set (i := 0) sc_l_numbers.nd rfl (Or.inl rfl) (pe_op op_fdiv (pv 0) pe_int)))))
      (pss_one (ps_ret (pv 2)))) pss_nil)
      (pss_cons (ps_set (i := 4) sc_l_numbers.nd rfl (Or.inl rfl) (pe_op op_mod (pe_callTy call_int1' (by rfl) T.z_int (by decide +kernel) (pa_cons (pv 0) pa_nil)) pe_int))
      (pss_cons (ps_for PassesOwn.never rfl (pi_range1 (by rfl) T.z_range (pa_cons (pv 1) pa_nil)) (pg_name (i := 3) sc_l_numbers.nd rfl (Or.inl rfl)) (pss_cons (ps_set (i := 4) sc_l_numbers.nd rfl (Or.inl rfl) (pe_op op_mod (pe_callTy call_int1' (by rfl) T.z_int (by decide +kernel) (pa_cons (pe_op op_add (pe_op op_mul (pv 4) pe_int) (pe_op op_mul pe_int (pe_op op_add (pv 3) pe_int))) pa_nil)) pe_int))
      (pss_one (ps_expr (bmK (K := K) rfl (pe_bm PySem.F.plainAttrs_list PySem.F.slot_list_append PySem.F.type_list_append mt_append (pv 2) (pa_cons (pe_op op_mod (pe_op op_fdiv (pv 4) pe_int) pe_int) pa_nil)))))))
      (pss_one (ps_ret (pv 2))))))), ?_⟩
    have zl : (sizeLine : Nat) = 16777216 := by decide
    walk_at "rd"
    refine ⟨by decide, fun p hp => ?_⟩
    walk_at "rd"
    refine r_iteD (fun _ => ?_) (fun _ => ?_)
    · walk_at "rd"
      refine r_rng1' (by omega) (by omega) ?_
      rw [Int.toNat_natCast]
      refine for_range (lo := 0) (n := n) (fun i σ H' => ∃ c' ns y3, σ = [some (.int c'), some (.int (n : Int)), some (.ref p), y3, none] ∧ Same H H' ∧ H' p = some (.lst (ns.map V.int)) ∧ ns.length = i ∧ ∀ z ∈ ns, 0 ≤ z ∧ z < 1000)
        ⟨c, [], none, rfl, same_new hp, upd_same, rfl, fun z hz => nomatch hz⟩ (fun i σ H' hi hP => ?_) (fun σ H' hP => ?_)
      · obtain ⟨c', ns, y3, rfl, sm, hN, hl, hz⟩ := hP
        walk_at "rd"
        refine ⟨ty_l (SqL.of hN), ?_⟩
        walk_at "rd"
        refine r_append hN (by rw [List.length_map]; omega) ?_
        walk_at "rd"
        refine ⟨_, ns ++ [c' % 1000], _, rfl, same_mut sm hp, by rw [upd_same, List.map_append]; rfl, by rw [List.length_append, hl]; rfl, fun z h => ?_⟩
        rcases List.mem_append.mp h with h | h
        · exact hz z h
        · rw [List.mem_singleton.mp h]; exact emod_rng _ (by decide)
      · obtain ⟨c', ns, y3, rfl, sm, hN, hl, hz⟩ := hP
        walk_at "rd"
        exact q H' p ns sm hp hN hl hz
    · walk_at "rd"
      refine r_rng1' (by omega) (by omega) ?_
      rw [Int.toNat_natCast]
      refine for_range (lo := 0) (n := n) (fun i σ H' => ∃ m ns y3, σ = [some (.int c), some (.int (n : Int)), some (.ref p), y3, some (.int m)] ∧ Same H H' ∧ H' p = some (.lst (ns.map V.int)) ∧ ns.length = i ∧ ∀ z ∈ ns, 0 ≤ z ∧ z < 1000)
        ⟨_, [], none, rfl, same_new hp, upd_same, rfl, fun z hz => nomatch hz⟩ (fun i σ H' hi hP => ?_) (fun σ H' hP => ?_)
      · obtain ⟨m, ns, y3, rfl, sm, hN, hl, hz⟩ := hP
        walk_at "rd"
        refine ⟨ty_l (SqL.of hN), ?_⟩
        walk_at "rd"
        refine r_append hN (by rw [List.length_map]; omega) ?_
        refine ⟨_, ns ++ [_ / 7 % 1000], _, rfl, same_mut sm hp, by rw [upd_same, List.map_append]; rfl, by rw [List.length_append, hl]; rfl, fun z h => ?_⟩
        rcases List.mem_append.mp h with h | h
        · exact hz z h
        · rw [List.mem_singleton.mp h]; exact emod_rng _ (by decide)
      · obtain ⟨m, ns, y3, rfl, sm, hN, hl, hz⟩ := hP
        walk_at "rd"
        exact q H' p ns sm hp hN hl hz

end

section
variable {P : Program} {w : World} {K : PySem.W.Frag} {mg : Str → Option Value} {base : Heap} {a : Ad}
theorem ok_l_action (T : Txt K mg a) : FnOk P w K mg base CX0 1 a.f_l_action a.d_l_action ["numbers", "count"] (spAction K) := by
  refine T.F_l_action.ok sc_l_action (fun vs H Q E h => ?_) (fun cdv A outer s H vs Q E hr h => ?_)
  · obtain ⟨p, ns, n, rfl, _⟩ := h
    rfl
  · obtain ⟨pn, ns, n, rfl, hS, h12, h1, h10, q⟩ := h
    have zl : (sizeLine : Nat) = 16777216 := by decide
    have hn0 : (0 : Int) < (n : Int) := by omega
    refine ⟨_, (pss_cons (ps_set (i := 2) sc_l_action.nd rfl (Or.inl rfl) (pe_op op_mod (pe_ix (ix_listK (K := K) rfl) (pv 0) pe_int (fun _ _ => rfl)) pe_int))
      (pss_cons (ps_if (pt_cmpR op_eq (pv 2) pe_int (nomark _)) (pss_one (ps_ret (pe_op op_rep (pe_lst (pa_cons (pe_op op_mod (pe_ix (ix_listK (K := K) rfl) (pv 0) pe_int (fun _ _ => rfl)) (pv 1)) pa_nil)) (pv 1)))) pss_nil)
      (pss_cons (ps_if (pt_cmpR op_eq (pv 2) pe_int (nomark _)) (pss_one (ps_ret (pe_lc (own := [("k", 4)]) (g := gName 4) (tt := tYes) rfl sc_l_action.nd (pi_range1 (by rfl) T.z_range (pa_cons (pv 1) pa_nil)) (blkOk_by (N := N_l_action) (sc := (defScope s_l_action)) (by decide +kernel)) (fun _ _ _ _ _ => pg_name (i := 4) sc_l_action.nd rfl (by first | exact Or.inl rfl | exact Or.inr rfl)) (fun _ _ _ _ _ => pts_nil) (fun _ _ _ _ _ => (pe_op op_mod (pe_ix (ix_listK (K := K) rfl) (pv 0) (pe_op op_add pe_int (pv 4)) (fun _ _ => rfl)) (pv 1)))))) pss_nil)
      (pss_cons (ps_if (pt_cmpR op_eq (pv 2) pe_int (nomark _)) (pss_one (ps_ret (pe_callB (cr_sortedK (K := K) rfl) (by rfl) T.z_sorted (by decide +kernel) (pa_cons (pe_lc (own := [("k", 4)]) (g := gName 4) (tt := tYes) rfl sc_l_action.nd (pi_range1 (by rfl) T.z_range (pa_cons (pv 1) pa_nil)) (blkOk_by (N := N_l_action) (sc := (defScope s_l_action)) (by decide +kernel)) (fun _ _ _ _ _ => pg_name (i := 4) sc_l_action.nd rfl (by first | exact Or.inl rfl | exact Or.inr rfl)) (fun _ _ _ _ _ => pts_nil) (fun _ _ _ _ _ => (pe_op op_mod (pe_ix (ix_listK (K := K) rfl) (pv 0) (pe_op op_add pe_int (pv 4)) (fun _ _ => rfl)) (pv 1)))) pa_nil)))) pss_nil)
      (pss_cons (ps_set (i := 3) sc_l_action.nd rfl (Or.inl rfl) (pe_listRg rfl (by rfl) T.z_list (prg_1 (by rfl) T.z_range (pv 1))))
      (pss_cons (ps_for PassesOwn.never rfl (pi_range1 (by rfl) T.z_range (pa_cons (pv 1) pa_nil)) (pg_name (i := 4) sc_l_action.nd rfl (Or.inl rfl)) (pss_cons (ps_set (i := 5) sc_l_action.nd rfl (Or.inl rfl) (pe_op op_mod (pe_ix (ix_listK (K := K) rfl) (pv 0) (pe_op op_add pe_int (pv 4)) (fun _ _ => rfl)) (pv 1)))
      (pss_cons (ps_set (i := 6) sc_l_action.nd rfl (Or.inl rfl) (pe_ix (ix_listK (K := K) rfl) (pv 3) (pv 4) (fun _ _ => rfl)))
      (pss_cons (ps_asg (pe_ix (ix_listK (K := K) rfl) (pv 3) (pv 5) (fun _ _ => rfl)) (pg_sub (pv 3) (pv 4) set_list))
      (pss_one (ps_asg (pv 6) (pg_sub (pv 3) (pv 5) set_list)))))))
      (pss_cons (ps_if (pt_cmpR op_eq (pv 2) pe_int (nomark _)) (pss_one (ps_asg (pe_ix (ix_listK (K := K) rfl) (pv 3) (pe_op op_mod (pe_ix (ix_listK (K := K) rfl) (pv 0) pe_int (fun _ _ => rfl)) (pv 1)) (fun _ _ => rfl)) (pg_sub (pv 3) (pe_op op_mod (pe_ix (ix_listK (K := K) rfl) (pv 0) pe_int (fun _ _ => rfl)) (pv 1)) set_list))) pss_nil)
      (pss_one (ps_ret (pv 3)))))))))), ?_⟩
    walk_at "rd"
    refine r_ixL hS (at_int (by decide) (by omega)) ?_
    walk_at "rd"
    refine r_iteD (fun _ => ?_) (fun _ => ?_)
    · walk_at "rd"
      refine r_ixL hS (at_int (by decide) (by omega)) ?_
      walk_at "rd"
      refine ⟨ln1, fun p hp => ?_⟩
      walk_at "rd"
      refine ⟨p, (n : Int), _, rfl, rfl, upd_same, by omega, by omega, ?_, fun p2 hp2 => ?_⟩
      · show 1 * (n : Int).toNat ≤ sizeLine
        omega
      · refine q _ p2 (List.replicate n _) ((same_new hp).trans (same_new hp2)) ((same_new hp).free hp2) ?_ (Dr.rep (emod_rng (ns.getD 1 0) hn0).1 (emod_rng _ hn0).2)
        rw [upd_same, Int.toNat_natCast, rep_flat]
        rfl
    walk_at "rd"
    refine r_iteD (fun _ => ?_) (fun _ => ?_)
    · walk_at "rd"
      refine r_rng1' (by omega) (by omega) ?_
      rw [Int.toNat_natCast]
      intro D hD
      refine lc_range (lo := 0) (n := n) (fun i G => Same H G ∧ ∃ ms, G D = some (.lst (ms.map V.int)) ∧ Dr i n ms) ⟨same_new hD, [], upd_same, .nil⟩ (fun i G hi hP => ?_) (fun G hP => ?_)
      · obtain ⟨sG, ms, hG, hd⟩ := hP
        refine ⟨rfl, r_yes (iteT ?_)⟩
        walk_at "rd"
        refine r_ixL (sG.seq hS) (at_int (by omega) (by omega)) ?_
        walk_at "rd"
        refine ⟨_, hG, by rw [List.length_map, hd.1]; omega, same_mut sG hD, ms ++ [ns.getD (2 + (0 + (i : Int))).toNat 0 % (n : Int)], ?_, hd.app (emod_rng _ hn0).1 (emod_rng _ hn0).2⟩
        rw [upd_same, List.map_append]
        rfl
      · obtain ⟨sG, ms, hG, hd⟩ := hP
        exact q G D ms sG hD hG hd
    walk_at "rd"
    refine r_iteD (fun _ => ?_) (fun _ => ?_)
    · walk_at "rd"
      refine r_rng1' (by omega) (by omega) ?_
      rw [Int.toNat_natCast]
      intro D hD
      refine lc_range (lo := 0) (n := n) (fun i G => Same H G ∧ ∃ ms, G D = some (.lst (ms.map V.int)) ∧ Dr i n ms) ⟨same_new hD, [], upd_same, .nil⟩ (fun i G hi hP => ?_) (fun G hP => ?_)
      · obtain ⟨sG, ms, hG, hd⟩ := hP
        refine ⟨rfl, r_yes (iteT ?_)⟩
        walk_at "rd"
        refine r_ixL (sG.seq hS) (at_int (by omega) (by omega)) ?_
        walk_at "rd"
        refine ⟨_, hG, by rw [List.length_map, hd.1]; omega, same_mut sG hD, ms ++ [ns.getD (2 + (0 + (i : Int))).toNat 0 % (n : Int)], ?_, hd.app (emod_rng _ hn0).1 (emod_rng _ hn0).2⟩
        rw [upd_same, List.map_append]
        rfl
      · obtain ⟨sG, ms, hG, hd⟩ := hP
        walk_at "rd"
        refine ⟨D, ms, rfl, SqL.of hG, by rw [hd.1]; omega, fun ms' p2 hpm _ hp2 => ?_⟩
        exact q _ p2 ms' (sG.trans (same_new hp2)) (sG.free hp2) upd_same (hd.perm hpm)
    walk_at "rd"
    refine r_lstRg1 (j := (n : Int)) (by omega) (by omega) (fun pa hpa => ?_) ⟨_, rfl, rfl, rfl⟩ (fun R R' h1 h2 => ?_)
    rotate_left
    · obtain ⟨v, e, h3⟩ := h2
      exact ⟨v, e, h1 _ _ h3⟩
    rw [Int.toNat_natCast]
    walk_at "rd"
    refine r_rng1' (by omega) (by omega) ?_
    rw [Int.toNat_natCast]
    refine for_range (lo := 0) (n := n) (fun i σ G => ∃ sv y4 y5 y6 ms, σ = [some (.ref pn), some (.int (n : Int)), some (.int sv), some (.ref pa), y4, y5, y6] ∧ Same H G ∧ G pa = some (.lst (ms.map V.int)) ∧ Dr n n ms)
      ⟨_, none, none, none, _, rfl, same_new hpa, upd_same, .range n⟩ (fun i σ G hi hP => ?_) (fun σ G hP => ?_)
    · obtain ⟨sv, y4, y5, y6, ms, rfl, sG, hG, hd⟩ := hP
      have hl := hd.1
      walk_at "rd"
      refine r_ixL (sG.seq hS) (at_int (by omega) (by omega)) ?_
      walk_at "rd"
      refine r_ixL (SqL.of hG) (at_int (by omega) (by omega)) ?_
      walk_at "rd"
      have hj := emod_rng (ns.getD (2 + (0 + (i : Int))).toNat 0) hn0
      refine r_ixL (SqL.of hG) (at_int hj.1 (by omega)) ?_
      walk_at "rd"
      refine r_setL hG (by omega) (by rw [List.length_map]; omega) ?_
      walk_at "rd"
      refine r_setL upd_same hj.1 (by rw [List.length_set, List.length_map]; omega) ?_
      rw [upd_upd, map_set_int, map_set_int]
      have g1 := hd.getD (j := (0 + (i : Int)).toNat) (by omega)
      have g2 := hd.getD (j := (ns.getD (2 + (0 + (i : Int))).toNat 0 % (n : Int)).toNat) (by omega)
      exact ⟨_, _, _, _, _, rfl, same_mut sG hpa, upd_same, (hd.set g2.1 g2.2).set g1.1 g1.2⟩
    · obtain ⟨sv, y4, y5, y6, ms, rfl, sG, hG, hd⟩ := hP
      have hl := hd.1
      walk_at "rd"
      refine r_iteD (fun _ => ?_) (fun _ => ?_)
      · walk_at "rd"
        refine r_ixL (sG.seq hS) (at_int (by decide) (by omega)) ?_
        walk_at "rd"
        have hj := emod_rng (ns.getD (9 : Int).toNat 0) hn0
        refine r_ixL (SqL.of hG) (at_int hj.1 (by omega)) ?_
        walk_at "rd"
        refine r_ixL (sG.seq hS) (at_int (by decide) (by omega)) ?_
        walk_at "rd"
        have hk := emod_rng (ns.getD (1 : Int).toNat 0) hn0
        refine r_setL hG hk.1 (by rw [List.length_map]; omega) ?_
        rw [map_set_int]
        walk_at "rd"
        have g2 := hd.getD (j := (ns.getD (9 : Int).toNat 0 % (n : Int)).toNat) (by omega)
        exact q _ pa _ (same_mut sG hpa) hpa upd_same (hd.set g2.1 g2.2)
      · walk_at "rd"
        exact q _ pa _ sG hpa hG hd

end

section
variable {P : Program} {w : World} {K : PySem.W.Frag} {mg : Str → Option Value} {base : Heap} {a : Ad}
theorem ok_l_machine (T : Txt K mg a) : FnOk P w K mg base CX0 2 a.f_l_machine a.d_l_machine ["cell", "count", "letters"] (spMachine K) := by
  have G_l_action := ok_l_action (P := P) (w := w) (base := base) T
  have G_l_numbers := ok_l_numbers (P := P) (w := w) (base := base) T
  refine T.F_l_machine.ok sc_l_machine (fun vs H Q E h => ?_) (fun cdv A outer s H vs Q E hr h => ?_)
  · obtain ⟨c, n, m, rfl, _⟩ := h
    rfl
  · obtain ⟨c, n, m, rfl, h1, h10, m1, m4, q⟩ := h
    have zl : (sizeLine : Nat) = 16777216 := by decide
    have hn0 : (0 : Int) < (n : Int) := by omega
    refine ⟨_, (pss_cons (ps_set (i := 3) sc_l_machine.nd rfl (Or.inr rfl) (pe_call (G_l_numbers) (hr.mono (by first | decide | omega)) (by rfl) T.g_l_numbers T.F_l_numbers.kp T.b_l_numbers .nil pass0 (pa_cons (pv 0) (pa_cons (pe_op op_add pe_int (pe_op op_mul pe_int (pv 2))) pa_nil))))
      (pss_cons (ps_set (i := 4) sc_l_machine.nd rfl (Or.inr rfl) (pe_lc (own := [("k", 7)]) (g := gName 7) (tt := tYes) rfl sc_l_machine.nd (pi_range1 (by rfl) T.z_range (pa_cons (pv 2) pa_nil)) (blkOk_by (N := N_l_machine) (sc := (defScope s_l_machine)) (by decide +kernel)) (fun _ _ _ _ _ => pg_name (i := 7) sc_l_machine.nd rfl (by first | exact Or.inl rfl | exact Or.inr rfl)) (fun _ _ _ _ _ => pts_nil) (fun _ _ _ _ _ => (pe_call (G_l_action) (hr.mono (by first | decide | omega)) (by rfl) T.g_l_action T.F_l_action.kp T.b_l_action .nil pass0 (pa_cons (pe_slice (sl_listK (K := K) rfl) (pv 3) (po_some (pe_op op_add pe_int (pe_op op_mul pe_int (pv 7)))) po_none) (pa_cons (pv 1) pa_nil))))))
      (pss_cons (ps_set (i := 5) sc_l_machine.nd rfl (Or.inl rfl) (pe_callTy (call_tupOfK (K := K) rfl) (by rfl) T.z_tuple (by decide +kernel) (pa_cons (pe_lc (own := [("state", 8)]) (g := gName 8) (tt := tYes) rfl sc_l_machine.nd (pi_range1 (by rfl) T.z_range (pa_cons (pv 1) pa_nil)) (blkOk_by (N := N_l_machine) (sc := (defScope s_l_machine)) (by decide +kernel)) (fun _ _ _ _ _ => pg_name (i := 8) sc_l_machine.nd rfl (by first | exact Or.inl rfl | exact Or.inr rfl)) (fun _ _ _ _ _ => pts_nil) (fun _ _ _ _ _ => (pe_callTy (call_tupOfK (K := K) rfl) (by rfl) T.z_tuple (by decide +kernel) (pa_cons (pe_lc (own := [("action", 9)]) (g := gName 9) (tt := tYes) rfl sc_l_machine.nd (pi_listK (K := K) rfl (pv 4)) (blkOk_by (N := N_l_machine) (sc := (relS (eScope (eArg 0 (sE (sIn 2 s_l_machine)))) (defScope s_l_machine))) (by decide +kernel)) (fun _ _ _ _ _ => pg_name (i := 9) sc_l_machine.nd rfl (by first | exact Or.inl rfl | exact Or.inr rfl)) (fun _ _ _ _ _ => pts_nil) (fun _ _ _ _ _ => (pe_ix (ix_listK (K := K) rfl) (pv 9) (pv 8) (fun _ _ => rfl)))) pa_nil)))) pa_nil)))
      (pss_cons (ps_set (i := 6) sc_l_machine.nd rfl (Or.inl rfl) (pe_callTy (call_tupOfK (K := K) rfl) (by rfl) T.z_tuple (by decide +kernel) (pa_cons (pe_lc (own := [("state", 8)]) (g := gName 8) rfl sc_l_machine.nd (pi_range1 (by rfl) T.z_range (pa_cons (pv 1) pa_nil)) (blkOk_by (N := N_l_machine) (sc := (defScope s_l_machine)) (by decide +kernel)) (fun _ _ _ _ _ => pg_name (i := 8) sc_l_machine.nd rfl (by first | exact Or.inl rfl | exact Or.inr rfl)) (fun _ _ _ _ _ => (pts_one (pt_cmpR op_eq (pe_op op_mod (pe_op op_fdiv (pe_ix (ix_listK (K := K) rfl) (pv 3) pe_int (fun _ _ => rfl)) (pe_ix (ix_listK (K := K) rfl) (pe_lst (pa_cons pe_int (pa_cons pe_int (pa_cons pe_int (pa_cons pe_int (pa_cons pe_int (pa_cons pe_int (pa_cons pe_int (pa_cons pe_int pa_nil))))))))) (pe_op op_mod (pv 8) pe_int) (fun _ _ => rfl))) pe_int) pe_int (nomark _)))) (fun _ _ _ _ _ => (pv 8))) pa_nil)))
      (pss_one (ps_ret (pe_tup (pa_cons (pv 5) (pa_cons (pe_op op_mod (pe_ix (ix_listK (K := K) rfl) (pv 3) pe_int (fun _ _ => rfl)) (pv 1)) (pa_cons (pv 6) pa_nil)))))))))), ?_⟩
    walk_at "rd"
    refine ⟨c, 4 + 12 * m, congrArg (fun z : Int => [V.int c, V.int z]) (by omega), by omega, fun H1 pn ns s1 hpn hN hlen hz => ?_⟩
    walk_at "rd"
    refine r_rng1' (by omega) (by omega) ?_
    rw [Int.toNat_natCast]
    intro D hD
    have nDp : D ≠ pn := fun e => by rw [e, hN] at hD; cases hD
    refine lc_range (lo := 0) (n := m) (fun i G => Same H1 G ∧ ∃ as : List Addr, G D = some (.lst (as.map V.ref)) ∧ as.length = i ∧ ∀ b ∈ as, b ≠ D ∧ ∃ ms, G b = some (.lst (ms.map V.int)) ∧ Dr n n ms) ⟨same_new hD, [], upd_same, rfl, fun b hb => nomatch hb⟩ (fun i G hi hP => ?_) (fun G hP => ?_)
    · obtain ⟨sG, as, hG, hal, has⟩ := hP
      refine ⟨rfl, r_yes (iteT ?_)⟩
      walk_at "rd"
      refine r_slL (SqL.of (sG _ _ hN)) (fun l hl => ?_)
      walk_at "rd"
      have e1 : (4 : Int) + 12 * (0 + (i : Int)) = ((4 + 12 * i : Nat) : Int) := by omega
      rw [e1, cut_drop, ← List.map_drop]
      refine ⟨l, ns.drop (4 + 12 * i), n, rfl, SqL.of upd_same, by rw [List.length_drop]; omega, h1, h10, fun H4 q4 ms s4 hq4 hm hd => ?_⟩
      have s5 : Same G H4 := (same_new hl).trans s4
      have hnG : G q4 = none := (same_new hl).free hq4
      have nq : q4 ≠ D := fun e => by rw [e, hG] at hnG; cases hnG
      refine ⟨_, s5 _ _ hG, by rw [List.length_map]; omega, same_mut (sG.trans s5) hD, as ++ [q4], ?_, by rw [List.length_append, hal]; rfl, fun b hb => ?_⟩
      · rw [upd_same, List.map_append]
        rfl
      · rcases List.mem_append.mp hb with hb | hb
        · obtain ⟨nb, ms', g1, g2⟩ := has b hb
          exact ⟨nb, ms', by rw [upd_ne nb]; exact s5 _ _ g1, g2⟩
        · rw [List.mem_singleton.mp hb]
          exact ⟨nq, ms, by rw [upd_ne nq]; exact hm, hd⟩
    · obtain ⟨sG, as, hG, hal, has⟩ := hP
      walk_at "rd"
      refine r_rng1' (by omega) (by omega) ?_
      rw [Int.toNat_natCast]
      intro D2 hD2
      refine lc_range (lo := 0) (n := n) (fun i G2 => Same G G2 ∧ ∃ (vs : List V) (rows : List (List Nat)), G2 D2 = some (.lst vs) ∧ DtAll K G2 vs (rows.map rowD) ∧ rows.length = i ∧ ∀ r ∈ rows, r.length = m ∧ ∀ s ∈ r, s < n) ⟨same_new hD2, [], [], upd_same, .nil, rfl, fun r hr => nomatch hr⟩ (fun i G2 hi hP => ?_) (fun G2 hP => ?_)
      · obtain ⟨sG2, vs, rows, hG2, hdt, hrl, hrw⟩ := hP
        refine ⟨rfl, r_yes (iteT ?_)⟩
        walk_at "rd"
        refine ⟨⟨_, SqL.of (sG2 _ _ hG)⟩, fun D3 hD3 => ?_⟩
        refine lc_list (xs := as.map V.ref) (fun j G3 => Same G2 G3 ∧ ∃ r : List Nat, G3 D3 = some (.lst (r.map iV)) ∧ r.length = j ∧ ∀ s ∈ r, s < n) ⟨same_new hD3, [], upd_same, rfl, fun s hs => nomatch hs⟩ (fun j G3 _ hP => ?_) (fun j x G3 hx hP => ?_) (fun G3 hP => ?_)
        · exact SqL.of (hP.1 _ _ (sG2 _ _ hG))
        · obtain ⟨sG3, r, hG3, hrl3, hr3⟩ := hP
          obtain ⟨b, hb, rfl⟩ : ∃ b ∈ as, V.ref b = x := List.mem_map.mp (List.mem_of_getElem? hx)
          obtain ⟨_, ms, g1, hd⟩ := has b hb
          have hl := hd.1
          have hjl : j < as.length := by
            have := (List.getElem?_eq_some_iff.mp hx).1
            rw [List.length_map] at this
            exact this
          refine ⟨rfl, r_yes (iteT ?_)⟩
          walk_at "rd"
          refine r_ixL (SqL.of (sG3 _ _ (sG2 _ _ g1))) (at_int (by omega) (by omega)) ?_
          have g := hd.getD (j := (0 + (i : Int)).toNat) (by omega)
          obtain ⟨k, ek, hk⟩ := nat_of g.1 g.2
          rw [ek]
          refine ⟨_, hG3, by rw [List.length_map]; omega, same_mut sG3 hD3, r ++ [k], by rw [upd_same, List.map_append]; rfl, by rw [List.length_append, hrl3]; rfl, fun s hs => ?_⟩
          rcases List.mem_append.mp hs with hs | hs
          · exact hr3 s hs
          · rw [List.mem_singleton.mp hs]; omega
        · obtain ⟨sG3, r, hG3, hrl3, hr3⟩ := hP
          rw [List.length_map] at hrl3
          walk_at "rd"
          refine r_tupL (SqL.of hG3) (fun t ht => ?_)
          have s4 : Same G2 (upd G3 t (.tup (r.map iV))) := sG3.trans (same_new ht)
          refine ⟨vs, s4 _ _ hG2, ?_, same_mut (sG2.trans s4) hD2, vs ++ [.ref t], rows ++ [r], upd_same, ?_, by rw [List.length_append, hrl]; rfl, fun r' hr' => ?_⟩
          · have := hdt.len
            rw [List.length_map] at this
            omega
          · rw [List.map_append]
            have sT : SameT (upd G3 t (.tup (r.map iV))) (upd (upd G3 t (.tup (r.map iV))) D2 (.lst (vs ++ [.ref t]))) := SameT.lst (s4 _ _ hG2)
            refine (hdt.k ((sT_of s4).trans sT)).snoc (.tup (sT.sq (SqT.of upd_same)) (ofNats r))
          · rcases List.mem_append.mp hr' with hr' | hr'
            · exact hrw r' hr'
            · rw [List.mem_singleton.mp hr']; exact ⟨by omega, hr3⟩
      · obtain ⟨sG2, vs, rows, hG2, hdt, hrl, hrw⟩ := hP
        walk_at "rd"
        refine r_tupL (SqL.of hG2) (fun ts hts => ?_)
        walk_at "rd"
        refine r_rng1' (by omega) (by omega) ?_
        rw [Int.toNat_natCast]
        intro D4 hD4
        have s3 : Same G2 (upd G2 ts (.tup vs)) := same_new hts
        have hN4 : (upd G2 ts (.tup vs)) pn = some (.lst (ns.map V.int)) := s3 _ _ (sG2 _ _ (sG _ _ hN))
        refine lc_range (lo := 0) (n := n) (fun i G4 => Same (upd G2 ts (.tup vs)) G4 ∧ ∃ r : List Nat, G4 D4 = some (.lst (r.map iV)) ∧ r.length ≤ i ∧ r.Pairwise (· < ·) ∧ ∀ s ∈ r, s < i) ⟨same_new hD4, [], upd_same, Nat.le_refl _, .nil, fun s hs => nomatch hs⟩ (fun i G4 hi hP => ?_) (fun G4 hP => ?_)
        · obtain ⟨sG4, r, hG4, hrl4, hpw, hr4⟩ := hP
          refine ⟨rfl, ?_⟩
          walk_at "rd"
          refine r_ixL (SqL.of (sG4 _ _ hN4)) (at_int (by decide) (by omega)) ?_
          walk_at "rd"
          refine ⟨ln8, fun p hp => ?_⟩
          walk_at "rd"
          obtain ⟨d, gd, d0, d1⟩ := menu8 (j := i % 8) (by omega)
          refine r_ixL (SqL.of upd_same) (at_of (j := i % 8) (by omega) gd) ?_
          refine r_fdiv ⟨d0, d1⟩ ?_
          walk_at "rd"
          have s5 := sG4.trans (same_new (o := .lst [V.int 1, V.int 2, V.int 4, V.int 8, V.int 16, V.int 32, V.int 64, V.int 125]) hp)
          have nDp : D4 ≠ p := ne_of_none hG4 hp
          have hG5 : (upd G4 p (.lst [V.int 1, V.int 2, V.int 4, V.int 8, V.int 16, V.int 32, V.int 64, V.int 125])) D4 = some (.lst (r.map iV)) := by rw [upd_ne nDp]; exact hG4
          refine r_iteD (fun _ => ?_) (fun _ => ?_)
          · walk_at "rd"
            refine ⟨_, hG5, by rw [List.length_map]; omega, same_mut s5 hD4, r ++ [i], ?_, ?_, ?_, fun s hs => ?_⟩
            · rw [upd_same, List.map_append, Int.zero_add]
              rfl
            · rw [List.length_append]
              exact Nat.succ_le_succ hrl4
            · refine List.pairwise_append.mpr ⟨hpw, List.pairwise_singleton _ _, fun x hx y hy => ?_⟩
              rw [List.mem_singleton.mp hy]
              exact hr4 x hx
            · rcases List.mem_append.mp hs with hs | hs
              · exact Nat.lt_succ_of_lt (hr4 s hs)
              · rw [List.mem_singleton.mp hs]; exact Nat.lt_succ_self _
          · exact ⟨s5, r, hG5, Nat.le_succ_of_le hrl4, hpw, fun s hs => Nat.lt_succ_of_lt (hr4 s hs)⟩
        · obtain ⟨sG4, r, hG4, hrl4, hpw, hr4⟩ := hP
          walk_at "rd"
          refine r_tupL (SqL.of hG4) (fun tg htg => ?_)
          walk_at "rd"
          have hN5 : (upd G4 tg (.tup (r.map iV))) pn = some (.lst (ns.map V.int)) := (same_new htg) _ _ (sG4 _ _ hN4)
          refine r_ixL (SqL.of hN5) (at_int (by decide) (by omega)) ?_
          walk_at "rd"
          have g := emod_rng (ns.getD (0 : Int).toNat 0) hn0
          obtain ⟨k, ek, hk⟩ := nat_of g.1 g.2
          rw [ek]
          refine ⟨ln3, fun t ht => ?_⟩
          have s6 : Same (upd G2 ts (.tup vs)) (upd (upd G4 tg (.tup (r.map iV))) t (.tup [V.ref ts, V.int (k : Int), V.ref tg])) := sG4.trans ((same_new htg).trans (same_new ht))
          refine q _ (.ref t) ⟨rows, k, r⟩ (s1.trans (sG.trans (sG2.trans (s3.trans s6)))) ?_ ⟨hrl, hrw, by show k < n; omega, hr4, hpw⟩
          refine .tup (SqT.of upd_same) (.cons ?_ (.cons (.int _) (.cons ?_ .nil)))
          · exact .tup (SqT.of (s6 _ _ upd_same)) (hdt.k (sT_of (s3.trans s6)))
          · exact .tup (SqT.of ((same_new ht) _ _ upd_same)) (ofNats r)

end

section
variable {P : Program} {w : World} {K : PySem.W.Frag} {mg : Str → Option Value} {base : Heap} {a : Ad}
theorem ok_l_lead (T : Txt K mg a) : FnOk P w K mg base CX0 1 a.f_l_lead a.d_l_lead ["machine", "state", "word"] (spLead K) := by
  refine T.F_l_lead.ok sc_l_lead (fun vs H Q E h => ?_) (fun cdv A outer s H vs Q E hr h => ?_)
  · obtain ⟨v, M, n, m, s, w, rfl, _⟩ := h
    rfl
  · obtain ⟨v, M, n, m, s, w, rfl, hM, ok, m4, hs, hw, q⟩ := h
    obtain ⟨pa, st, gd, rows, rfl, hA, hSt, hRows, hG⟩ := macE hM
    refine ⟨_, (pss_cons (ps_for PassesOwn.never rfl (pi_str (pv 2)) (pg_name (i := 3) sc_l_lead.nd rfl (Or.inl rfl)) (pss_one (ps_set (i := 1) sc_l_lead.nd rfl (Or.inl rfl) (pe_ix (ix_tupK (K := K) rfl) (pe_ix (ix_tupK (K := K) rfl) (pe_ix (ix_tupK (K := K) rfl) (pv 0) pe_int (fun _ _ => rfl)) (pv 1) (fun _ _ => rfl)) (bmK (K := K) rfl (pe_bm PySem.F.plainAttrs_str PySem.F.slot_str_index PySem.F.type_str_index mt_indexS pe_str (pa_cons (pv 3) pa_nil))) (fun _ _ => rfl)))))
      (pss_one (ps_ret (pv 1)))), ?_⟩
    walk_at "rd"
    refine for_str (fun i σ H' => H' = H ∧ ∃ yl, σ = [some (.ref pa), some (iV (leadM M s (w.take i))), some (sV w), yl]) ⟨rfl, _, rfl⟩ (fun i c σ H' hc hP => ?_) (fun σ H' hP => ?_)
    · obtain ⟨rfl, yl, rfl⟩ := hP
      have hc' : w[i]? = some c := by simpa using hc
      have hcm := hw c (List.mem_of_getElem? hc')
      have hlt := leadM_lt ok (w.take i) s hs (hw.take i)
      obtain ⟨pr, gr, hR⟩ := rowsE (s := leadM M s (w.take i)) hRows (by rw [ok.len]; exact hlt)
      have hrl := (ok.rowAt hlt).1
      walk_at "rd"
      refine r_ixT hA (at_of (j := 0) rfl rfl) ?_
      walk_at "rd"
      refine r_ixT hSt (at_of rfl gr) ?_
      walk_at "rd"
      refine ⟨rfl, ?_⟩
      walk_at "rd"
      refine r_idxS (let_ix hcm.1 hcm.2 m4) ?_
      refine r_ixT hR (at_nat rfl (by rw [hrl]; omega)) ?_
      refine ⟨rfl, some (.str ⟨#[c]⟩), ?_⟩
      rw [List.take_add_one, hc']
      show _ = [some (.ref pa), some (iV (leadM M s (w.take i ++ (some c).toList))), some (sV w), some (.str ⟨#[c]⟩)]
      rw [show (w.take i ++ (some c).toList) = w.take i ++ [c] from rfl, leadM_snoc]
      rfl
    · obtain ⟨rfl, yl, rfl⟩ := hP
      walk_at "rd"
      have e : w.take (⟨w.toArray⟩ : Str).cps.size = w := by
        show w.take w.toArray.size = w
        rw [List.size_toArray, List.take_length]
      rw [e]
      exact q

theorem ok_lead (T : Txt K mg a) : FnOk P w K mg base CX0 1 a.f_lead a.d_lead ["machine", "state", "word"] (spLead K) := by
  refine T.F_lead.ok sc_lead (fun vs H Q E h => ?_) (fun cdv A outer s H vs Q E hr h => ?_)
  · obtain ⟨v, M, n, m, s, w, rfl, _⟩ := h
    rfl
  · obtain ⟨v, M, n, m, s, w, rfl, hM, ok, m4, hs, hw, q⟩ := h
    obtain ⟨pa, st, gd, rows, rfl, hA, hSt, hRows, hG⟩ := macE hM
    refine ⟨_, (pss_cons (ps_set (i := 3) sc_lead.nd rfl (Or.inl rfl) (pe_ix (ix_tupK (K := K) rfl) (pv 0) pe_int (fun _ _ => rfl)))
      (pss_cons (ps_for PassesOwn.never rfl (pi_str (pv 2)) (pg_name (i := 4) sc_lead.nd rfl (Or.inl rfl)) (pss_one (ps_set (i := 1) sc_lead.nd rfl (Or.inl rfl) (pe_ix (ix_tupK (K := K) rfl) (pe_ix (ix_tupK (K := K) rfl) (pv 3) (pv 1) (fun _ _ => rfl)) (bmK (K := K) rfl (pe_bm PySem.F.plainAttrs_str PySem.F.slot_str_index PySem.F.type_str_index mt_indexS (pe_glob (v := V.str "abcd") (by rfl) T.c_LETTERS.choose_spec ⟨_, rfl⟩) (pa_cons (pv 4) pa_nil))) (fun _ _ => rfl)))))
      (pss_one (ps_ret (pv 1))))), ?_⟩
    walk_at "rd"
    refine r_ixT hA (at_of (j := 0) rfl rfl) ?_
    walk_at "rd"
    refine for_str (fun i σ H' => H' = H ∧ ∃ yl, σ = [some (.ref pa), some (iV (leadM M s (w.take i))), some (sV w), some (.ref st), yl]) ⟨rfl, _, rfl⟩ (fun i c σ H' hc hP => ?_) (fun σ H' hP => ?_)
    · obtain ⟨rfl, yl, rfl⟩ := hP
      have hc' : w[i]? = some c := by simpa using hc
      have hcm := hw c (List.mem_of_getElem? hc')
      have hlt := leadM_lt ok (w.take i) s hs (hw.take i)
      obtain ⟨pr, gr, hR⟩ := rowsE (s := leadM M s (w.take i)) hRows (by rw [ok.len]; exact hlt)
      have hrl := (ok.rowAt hlt).1
      walk_at "rd"
      refine r_ixT hSt (at_of rfl gr) ?_
      walk_at "rd"
      refine ⟨rfl, ?_⟩
      walk_at "rd"
      refine r_idxS (let_ix hcm.1 hcm.2 m4) ?_
      refine r_ixT hR (at_nat rfl (by rw [hrl]; omega)) ?_
      refine ⟨rfl, some (.str ⟨#[c]⟩), ?_⟩
      rw [List.take_add_one, hc']
      show _ = [some (.ref pa), some (iV (leadM M s (w.take i ++ (some c).toList))), some (sV w), some (.ref st), some (.str ⟨#[c]⟩)]
      rw [show (w.take i ++ (some c).toList) = w.take i ++ [c] from rfl, leadM_snoc]
      rfl
    · obtain ⟨rfl, yl, rfl⟩ := hP
      walk_at "rd"
      have e : w.take (⟨w.toArray⟩ : Str).cps.size = w := by
        show w.take w.toArray.size = w
        rw [List.size_toArray, List.take_length]
      rw [e]
      exact q

theorem ok_letters_of (T : Txt K mg a) : FnOk P w K mg base CX0 1 a.f_letters_of a.d_letters_of ["machine"] (spLetters K) := by
  refine T.F_letters_of.ok sc_letters_of (fun vs H Q E h => ?_) (fun cdv A outer s H vs Q E hr h => ?_)
  · obtain ⟨v, M, n, m, rfl, _⟩ := h
    rfl
  · obtain ⟨v, M, n, m, rfl, hM, ok, n1, m4, q⟩ := h
    obtain ⟨pa, st, gd, rows, rfl, hA, hSt, hRows, hG⟩ := macE hM
    obtain ⟨pr, gr, hR⟩ := rowsE (s := 0) hRows (by rw [ok.len]; omega)
    have hrl := (ok.rowAt (s := 0) (by omega)).1
    refine ⟨_, (pss_one (ps_ret (pe_slice sl_str (pe_glob (v := V.str "abcd") (by rfl) T.c_LETTERS.choose_spec ⟨_, rfl⟩) po_none (po_some (pe_callB (call_lenQK (K := K) rfl) (by rfl) T.z_len (by decide +kernel) (pa_cons (pe_ix (ix_tupK (K := K) rfl) (pe_ix (ix_tupK (K := K) rfl) (pv 0) pe_int (fun _ _ => rfl)) pe_int (fun _ _ => rfl)) pa_nil)))))), ?_⟩
    walk_at "rd"
    refine r_ixT hA (at_of (j := 0) rfl rfl) ?_
    walk_at "rd"
    refine r_ixT hSt (at_of (j := 0) rfl gr) ?_
    walk_at "rd"
    refine r_lenT hR ?_
    rw [List.length_map, hrl]
    walk_at "rd"
    refine r_slS (by decide +kernel) ?_
    rw [cut_abcd m4]
    exact q

end

section
variable {P : Program} {w : World} {K : PySem.W.Frag} {mg : Str → Option Value} {base : Heap} {a : Ad}
theorem ok_l_word (T : Txt K mg a) : FnOk P w K mg base CX0 2 a.f_l_word a.d_l_word ["cell", "letters"] (spWord K) := by
  have G_l_numbers := ok_l_numbers (P := P) (w := w) (base := base) T
  refine T.F_l_word.ok sc_l_word (fun vs H Q E h => ?_) (fun cdv A outer s H vs Q E hr h => ?_)
  · obtain ⟨c, m, rfl, _⟩ := h
    rfl
  · obtain ⟨c, m, rfl, m1, m4, q⟩ := h
    have zl : (sizeLine : Nat) = 16777216 := by decide
    have hm0 : (0 : Int) < (m : Int) := by omega
    refine ⟨_, (pss_cons (ps_set (i := 2) sc_l_word.nd rfl (Or.inl rfl) (pe_call (G_l_numbers) (hr.mono (by first | decide | omega)) (by rfl) T.g_l_numbers T.F_l_numbers.kp T.b_l_numbers .nil pass0 (pa_cons (pv 0) (pa_cons pe_int pa_nil))))
      (pss_cons (ps_set (i := 3) sc_l_word.nd rfl (Or.inl rfl) (pe_ix (ix_listK (K := K) rfl) (pe_lst (pa_cons (pe_op op_mod (pe_ix (ix_listK (K := K) rfl) (pv 2) pe_int (fun _ _ => rfl)) pe_int) (pa_cons (pe_op op_mod (pe_ix (ix_listK (K := K) rfl) (pv 2) pe_int (fun _ _ => rfl)) pe_int) pa_nil))) (pe_op op_mod (pe_ix (ix_listK (K := K) rfl) (pv 2) pe_int (fun _ _ => rfl)) pe_int) (fun _ _ => rfl)))
      (pss_one (ps_ret (bmK (K := K) rfl (pe_bm PySem.F.plainAttrs_str PySem.F.slot_str_join PySem.F.type_str_join (mt_joinSK (K := K) rfl) pe_str (pa_cons (pe_lc (own := [("number", 4)]) (g := gName 4) (tt := tYes) rfl sc_l_word.nd (pi_listK (K := K) rfl (pe_slice (sl_listK (K := K) rfl) (pv 2) (po_some pe_int) (po_some (pe_op op_add pe_int (pv 3))))) (blkOk_by (N := N_l_word) (sc := (defScope s_l_word)) (by decide +kernel)) (fun _ _ _ _ _ => pg_name (i := 4) sc_l_word.nd rfl (by first | exact Or.inl rfl | exact Or.inr rfl)) (fun _ _ _ _ _ => pts_nil) (fun _ _ _ _ _ => (pe_ix ix_str pe_str (pe_op op_mod (pv 4) (pv 1)) (fun _ _ => rfl)))) pa_nil))))))), ?_⟩
    walk_at "rd"
    refine ⟨c, 14, rfl, by omega, fun H1 pn ns s1 hpn hN hlen hz => ?_⟩
    walk_at "rd"
    refine r_ixL (SqL.of hN) (at_int (by decide) (by omega)) ?_
    walk_at "rd"
    refine r_ixL (SqL.of hN) (at_int (by decide) (by omega)) ?_
    walk_at "rd"
    refine ⟨ln2, fun p hp => ?_⟩
    walk_at "rd"
    have hN2 := (same_new (o := .lst [V.int (ns.getD (0 : Int).toNat 0 % 4), V.int (ns.getD (0 : Int).toNat 0 % 13)]) hp) _ _ hN
    refine r_ixL (SqL.of hN2) (at_int (by decide) (by omega)) ?_
    walk_at "rd"
    obtain ⟨size, gs⟩ : ∃ size : Int, [V.int (ns.getD (0 : Int).toNat 0 % 4), V.int (ns.getD (0 : Int).toNat 0 % 13)][(ns.getD (13 : Int).toNat 0 % 2).toNat]? = some (.int size) := by
      have g := emod_rng (ns.getD (13 : Int).toNat 0) (b := 2) (by decide)
      have h : (ns.getD (13 : Int).toNat 0 % 2).toNat = 0 ∨ (ns.getD (13 : Int).toNat 0 % 2).toNat = 1 := by omega
      rcases h with h | h <;> rw [h]
      · exact ⟨_, rfl⟩
      · exact ⟨_, rfl⟩
    refine r_ixL (SqL.of upd_same) (at_of (by have g := emod_rng (ns.getD (13 : Int).toNat 0) (b := 2) (by decide); omega) gs) ?_
    walk_at "rd"
    refine ⟨rfl, ?_⟩
    walk_at "rd"
    refine r_slL (SqL.of hN2) (fun l hl => ?_)
    walk_at "rd"
    obtain ⟨ys, ey, ly, my⟩ := cutV_map V.int ns (some 1) (some (1 + size))
    rw [ey]
    refine ⟨⟨_, SqL.of upd_same⟩, fun D hD => ?_⟩
    refine lc_list (xs := ys.map V.int) (fun i G => Same (upd (upd H1 p (.lst [V.int (ns.getD (0 : Int).toNat 0 % 4), V.int (ns.getD (0 : Int).toNat 0 % 13)])) l (.lst (ys.map V.int))) G ∧ ∃ w : List Nat, G D = some (.lst ((w.map fun c => (⟨#[c]⟩ : Str)).map V.str)) ∧ w.length = i ∧ isW m w)
      ⟨same_new hD, [], upd_same, rfl, fun c hc => nomatch hc⟩ (fun i G _ hP => ?_) (fun i x G hx hP => ?_) (fun G hP => ?_)
    · exact SqL.of (hP.1 _ _ upd_same)
    · obtain ⟨sG, w, hG, hwl, hw⟩ := hP
      obtain ⟨z, hzm, rfl⟩ : ∃ z ∈ ys, V.int z = x := List.mem_map.mp (List.mem_of_getElem? hx)
      have hil : i < ys.length := by
        have := (List.getElem?_eq_some_iff.mp hx).1
        rw [List.length_map] at this
        exact this
      have g := emod_rng z hm0
      obtain ⟨k, ek, hk⟩ := nat_of g.1 g.2
      obtain ⟨cc, hcc, h0, h1⟩ : ∃ cc, [97, 98, 99, 100][k]? = some cc ∧ 97 ≤ cc ∧ cc < 97 + m := by
        have h : k = 0 ∨ k = 1 ∨ k = 2 ∨ k = 3 := by omega
        rcases h with rfl | rfl | rfl | rfl
        · exact ⟨97, rfl, by omega, by omega⟩
        · exact ⟨98, rfl, by omega, by omega⟩
        · exact ⟨99, rfl, by omega, by omega⟩
        · exact ⟨100, rfl, by omega, by omega⟩
      refine ⟨rfl, r_yes (iteT ?_)⟩
      walk_at "rd"
      rw [ek]
      refine r_ixS (by decide +kernel) (atI_nat (show (Str.ofString "abcd").cps.toList[k]? = some cc from hcc)) ?_
      refine ⟨_, hG, by rw [List.length_map, List.length_map]; omega, same_mut sG hD, w ++ [cc], ?_, by rw [List.length_append, hwl]; rfl, hw.app fun c hc => ?_⟩
      · rw [upd_same, List.map_append, List.map_append]
        rfl
      · rw [List.mem_singleton.mp hc]; exact ⟨h0, h1⟩
    · obtain ⟨sG, w, hG, hwl, hw⟩ := hP
      rw [List.length_map] at hwl
      walk_at "rd"
      refine ⟨Str.ofString "", D, w.map fun c => (⟨#[c]⟩ : Str), rfl, rfl, .inl (SqL.of hG), ?_, ?_⟩
      · have e : ((w.map fun c => (⟨#[c]⟩ : Str)).map (·.length)).sum = w.length := by
          clear hG hwl hw
          induction w with
          | nil => rfl
          | cons c w ih => rw [List.map_cons, List.map_cons, List.sum_cons, ih]; show 1 + w.length = w.length + 1; omega
        have e2 : (Str.ofString "").length = 0 := by decide +kernel
        rw [e, e2, List.length_map]
        omega
      · rw [join_signs]
        exact q G w (s1.trans ((same_new hp).trans ((same_new hl).trans sG))) (by omega) hw

end

def ringP (M : Mac) (m : Nat) (w : List Nat) (ss : List Int) : Prop :=
  w ≠ [] ∧ (∀ c ∈ w, c ∈ abcdG m) ∧ 2 ≤ ss.length ∧ ss.Nodup ∧ (∀ s ∈ ss, 0 ≤ s ∧ s < (M.steps.length : Int)) ∧
  ∀ k, k < ss.length → ((leadM M (ss.getD k 0).toNat w : Nat) : Int) = ss.getD ((k + 1) % ss.length) 0
def spRing (K : PySem.W.Frag) : Sp := fun vs H Q _ => ∃ (v : V) (M : Mac) (n m : Nat) (w : List Nat) (t : Addr) (ss : List Int), vs = [v, sV w, .ref t] ∧ Dt K H v (macD M) ∧ MacOk M n m ∧ 1 ≤ n ∧ n ≤ 40 ∧ m ≤ 4 ∧
  w.length ≤ 10000 ∧ SqT K H t (ss.map V.int) ∧ ss.length ≤ 100 ∧ ∀ (H' : Hp) (b : Bool), Same H H' → (b = true ↔ ringP M m w ss) → Q (.bl b) H'
theorem abcd_isW {m c : Nat} (hm : m ≤ 4) (h : c ∈ abcdG m) : 97 ≤ c ∧ c < 97 + m := by
  obtain ⟨i, hi⟩ := List.mem_iff_getElem?.mp h
  have hl := (List.getElem?_eq_some_iff.mp hi).1
  rw [abcdG_len hm] at hl
  unfold abcdG at hi
  rw [List.getElem?_take] at hi
  rw [if_pos hl] at hi
  match i, hi with
  | 0, e => cases Option.some.inj e; omega
  | 1, e => cases Option.some.inj e; omega
  | 2, e => cases Option.some.inj e; omega
  | 3, e => cases Option.some.inj e; omega
  | n + 4, e => simp at e
theorem isW_abcd {m c : Nat} (hm : m ≤ 4) (h0 : 97 ≤ c) (h1 : c < 97 + m) : c ∈ abcdG m := by
  have e := let_ix h0 h1 hm
  refine List.mem_iff_getElem?.mpr ⟨c - 97, ?_⟩
  unfold abcdG
  rw [List.getElem?_take, if_pos (by omega)]
  exact e
theorem nodup_len_le : ∀ {ks : List Int} {ns : List Int}, ks.Nodup → (∀ k ∈ ks, k ∈ ns) → ks.length ≤ ns.length
  | [], _, _, _ => Nat.zero_le _
  | k :: ks, ns, nd, h => by
    have hk : k ∈ ns := h k List.mem_cons_self
    have nd' := List.nodup_cons.mp nd
    have hs : ∀ x ∈ ks, x ∈ ns.erase k := fun x hx => by
      have hne : x ≠ k := fun e => nd'.1 (e ▸ hx)
      exact (List.mem_erase_of_ne hne).mpr (h x (List.mem_cons_of_mem _ hx))
    have ih := nodup_len_le nd'.2 hs
    rw [List.length_erase_of_mem hk] at ih
    have : 0 < ns.length := List.length_pos_of_mem hk
    rw [List.length_cons]
    omega
/-- as many as there are different ones: none twice -/
theorem set_len {ks ns : List Int} (nd : ks.Nodup) (h : ∀ k, k ∈ ks ↔ k ∈ ns) : ks.length < ns.length ↔ ¬ ns.Nodup := by
  constructor
  · intro hl hn
    have := nodup_len_le hn (fun k hk => (h k).mpr hk)
    omega
  · intro hn
    have hle := nodup_len_le nd (fun k hk => (h k).mp hk)
    rcases Nat.lt_or_ge ks.length ns.length with h1 | h1
    · exact h1
    · exfalso
      apply hn
      have he : ks.length = ns.length := Nat.le_antisymm hle h1
      clear hle h1
      induction ns generalizing ks with
      | nil => exact .nil
      | cons n ns ih =>
        have hnk : n ∈ ks := (h n).mpr List.mem_cons_self
        have hnot : n ∉ ns := by
          intro hin
          have := nodup_len_le (ks := ks) (ns := ns) nd (fun k hk => by
            rcases List.mem_cons.mp ((h k).mp hk) with e | e
            · rw [e]; exact hin
            · exact e)
          rw [List.length_cons] at he
          omega
        refine List.nodup_cons.mpr ⟨hnot, ?_⟩
        have nd2 := nd.erase n
        have hm : ∀ k, k ∈ ks.erase n ↔ k ∈ ns := fun k => by
          constructor
          · intro hk
            have hk2 := List.mem_of_mem_erase hk
            have hne : k ≠ n := fun e => by
              rw [e] at hk
              exact absurd hk (List.Nodup.not_mem_erase nd)
            rcases List.mem_cons.mp ((h k).mp hk2) with e | e
            · exact absurd e hne
            · exact e
          · intro hk
            have hne : k ≠ n := fun e => hnot (e ▸ hk)
            exact (List.mem_erase_of_ne hne).mpr ((h k).mpr (List.mem_cons_of_mem _ hk))
        refine ih (ks := ks.erase n) nd2 hm ?_ ?_
        · intro hcon
          exact hn (List.nodup_cons.mpr ⟨hnot, hcon⟩)
        · rw [List.length_erase_of_mem hnk, he, List.length_cons]
          rfl
theorem rot_iff (f : Int → Int) (ss : List Int) (h2 : 2 ≤ ss.length) : ss.map f = ss.drop 1 ++ [ss.getD 0 0] ↔ ∀ k, k < ss.length → f (ss.getD k 0) = ss.getD ((k + 1) % ss.length) 0 := by
  have gd : ∀ k, k < ss.length → ss[k]? = some (ss.getD k 0) := fun k hk => by
    rw [List.getD_eq_getElem?_getD, List.getElem?_eq_getElem hk]; rfl
  have rhs : ∀ k, k < ss.length → (ss.drop 1 ++ [ss.getD 0 0])[k]? = some (ss.getD ((k + 1) % ss.length) 0) := fun k hk => by
    by_cases hl : k + 1 < ss.length
    · rw [List.getElem?_append_left (by rw [List.length_drop]; omega), List.getElem?_drop, Nat.mod_eq_of_lt hl, Nat.add_comm 1 k]
      exact gd _ hl
    · have e : k = ss.length - 1 := by omega
      rw [List.getElem?_append_right (by rw [List.length_drop]; omega), List.length_drop]
      have e2 : k - (ss.length - 1) = 0 := by omega
      have e3 : k + 1 = ss.length := by omega
      rw [e2, e3, Nat.mod_self]
      rfl
  constructor
  · intro he k hk
    have h1 : (ss.map f)[k]? = some (f (ss.getD k 0)) := by rw [List.getElem?_map, gd k hk]; rfl
    rw [he, rhs k hk] at h1
    exact (Option.some.inj h1).symm
  · intro hall
    apply List.ext_getElem?
    intro k
    by_cases hk : k < ss.length
    · rw [rhs k hk, List.getElem?_map, gd k hk, ← hall k hk]
      rfl
    · rw [List.getElem?_eq_none (by rw [List.length_map]; omega), List.getElem?_eq_none (by rw [List.length_append, List.length_drop]; show ss.length - 1 + 1 ≤ k; omega)]

section
variable {P : Program} {w : World} {K : PySem.W.Frag} {mg : Str → Option Value} {base : Heap} {a : Ad}
theorem ok_is_ring (T : Txt K mg a) : FnOk P w K mg base CX0 2 a.f_is_ring a.d_is_ring ["machine", "word", "states"] (spRing K) := by
  have G_lead := ok_lead (P := P) (w := w) (base := base) T
  have G_letters_of := ok_letters_of (P := P) (w := w) (base := base) T
  refine T.F_is_ring.ok sc_is_ring (fun vs H Q E h => ?_) (fun cdv A outer s H vs Q E hr h => ?_)
  · obtain ⟨v, M, n, m, w, t, ss, rfl, _⟩ := h
    rfl
  · obtain ⟨v, M, n, m, w, t, ss, rfl, hM, ok, n1, n40, m4, hwl, hSS, hsl, q⟩ := h
    have zl : (sizeLine : Nat) = 16777216 := by decide
    obtain ⟨pa, st, gd, rows, rfl, hA, hSt, hRows, hG⟩ := macE hM
    have erl : rows.length = n := by have := hRows.len; rw [List.length_map, ok.len] at this; exact this
    refine ⟨_, (pss_cons (ps_set (i := 3) sc_is_ring.nd rfl (Or.inr rfl) (pe_call (G_letters_of) (hr.mono (by first | decide | omega)) (by rfl) T.g_letters_of T.F_letters_of.kp T.b_letters_of .nil pass0 (pa_cons (pv 0) pa_nil)))
      (pss_cons (ps_set (i := 4) sc_is_ring.nd rfl (Or.inr rfl) (pe_callB (call_lenQK (K := K) rfl) (by rfl) T.z_len (by decide +kernel) (pa_cons (pe_ix (ix_tupK (K := K) rfl) (pv 0) pe_int (fun _ _ => rfl)) pa_nil)))
      (pss_cons (ps_if (PW.pt (pw_or (pt_cmpR op_lt (pe_callB call_lenS1 (by rfl) T.z_len (by decide +kernel) (pa_cons (pv 1) pa_nil)) pe_int (nomark _)) (pw_or1 (pt_val (pe_callB (cr_anyK (K := K) rfl rfl) (by rfl) T.z_any (by decide +kernel) (pa_cons (pe_lc (own := [("letter", 5)]) (g := gName 5) (tt := tYes) rfl sc_is_ring.nd (pi_str (pv 1)) (blkOk_by (N := N_is_ring) (sc := (defScope s_is_ring)) (by decide +kernel)) (fun _ _ _ _ _ => pg_name (i := 5) sc_is_ring.nd rfl (by first | exact Or.inl rfl | exact Or.inr rfl)) (fun _ _ _ _ _ => pts_nil) (fun _ _ _ _ _ => (pe_cmpR op_notInSg (pv 5) (pv 3) (by rfl)))) pa_nil)))))) (pss_one (ps_ret pe_bl)) pss_nil)
      (pss_cons (ps_if (PW.pt (pw_or (pt_cmpR op_lt (pe_callB (call_lenQK (K := K) rfl) (by rfl) T.z_len (by decide +kernel) (pa_cons (pv 2) pa_nil)) pe_int (nomark _)) (pw_or1 (pt_cmpR op_lt (pe_lenSetT (K := K) rfl rfl (by rfl) T.z_len (by rfl) T.z_set (pv 2)) (pe_callB (call_lenQK (K := K) rfl) (by rfl) T.z_len (by decide +kernel) (pa_cons (pv 2) pa_nil)) (nomark _))))) (pss_one (ps_ret pe_bl)) pss_nil)
      (pss_cons (ps_if (pt_val (pe_callB (cr_anyK (K := K) rfl rfl) (by rfl) T.z_any (by decide +kernel) (pa_cons (pe_lc (own := [("state", 6)]) (g := gName 6) (tt := tYes) rfl sc_is_ring.nd (pi_tupK (K := K) rfl (pv 2)) (blkOk_by (N := N_is_ring) (sc := (defScope s_is_ring)) (by decide +kernel)) (fun _ _ _ _ _ => pg_name (i := 6) sc_is_ring.nd rfl (by first | exact Or.inl rfl | exact Or.inr rfl)) (fun _ _ _ _ _ => pts_nil) (fun _ _ _ _ _ => (pe_not (pe_chain op_le op_lt pe_int (pv 6) (pv 4))))) pa_nil))) (pss_one (ps_ret pe_bl)) pss_nil)
      (pss_one (ps_ret (pe_cmpR (op_eqDK (K := K) rfl hr.units) (pe_lc (own := [("state", 6)]) (g := gName 6) (tt := tYes) rfl sc_is_ring.nd (pi_tupK (K := K) rfl (pv 2)) (blkOk_by (N := N_is_ring) (sc := (defScope s_is_ring)) (by decide +kernel)) (fun _ _ _ _ _ => pg_name (i := 6) sc_is_ring.nd rfl (by first | exact Or.inl rfl | exact Or.inr rfl)) (fun _ _ _ _ _ => pts_nil) (fun _ _ _ _ _ => (pe_call (G_lead) (hr.mono (by first | decide | omega)) (by rfl) T.g_lead T.F_lead.kp T.b_lead .nil pass0 (pa_cons (pv 0) (pa_cons (pv 6) (pa_cons (pv 1) pa_nil)))))) (pe_lst (pa_starK (K := K) rfl (pe_slice (sl_tupK (K := K) rfl) (pv 2) (po_some pe_int) po_none) (pa_cons (pe_ix (ix_tupK (K := K) rfl) (pv 2) pe_int (fun _ _ => rfl)) pa_nil))) (nomark _))))))))), ?_⟩
    walk_at "rd"
    refine ⟨.ref pa, M, n, m, rfl, hM, ok, n1, m4, ?_⟩
    walk_at "rd"
    refine r_ixT hA (at_of (j := 0) rfl rfl) ?_
    walk_at "rd"
    refine r_lenT hSt ?_
    rw [erl]
    walk_at "rd"
    refine r_lenS (by rw [str_len]; omega) ?_
    rw [str_len]
    walk_at "rd"
    refine r_iteD (fun h1 => ?_) (fun h1 => ?_)
    · walk_at "rd"
      refine q H false (Same.refl H) ⟨fun e => Bool.noConfusion e, fun e => absurd (List.length_eq_zero_iff.mp (by omega)) e.1⟩
    walk_at "rd"
    intro D hD
    refine lc_str (fun i G => Same H G ∧ G D = some (.lst (((w.take i).map fun c => !decide (c ∈ abcdG m)).map V.bl))) ⟨same_new hD, by rw [upd_same]; rfl⟩ (fun i c G hc hP => ?_) (fun G hP => ?_)
    · obtain ⟨sG, hG1⟩ := hP
      have hc' : w[i]? = some c := by simpa using hc
      have hil := (List.getElem?_eq_some_iff.mp hc').1
      refine ⟨rfl, r_yes (iteT ?_)⟩
      walk_at "rd"
      refine ⟨_, hG1, by rw [List.length_map, List.length_map, List.length_take]; omega, same_mut sG hD, ?_⟩
      rw [upd_same, List.take_add_one, hc', List.map_append, List.map_append]
      rfl
    obtain ⟨sG, hG1⟩ := hP
    have et : w.take (⟨w.toArray⟩ : Str).cps.size = w := by
      show w.take w.toArray.size = w
      rw [List.size_toArray, List.take_length]
    rw [et] at hG1
    walk_at "rd"
    refine r_any (SqL.of hG1) ?_
    walk_at "rd"
    refine ite2 (fun e => ?_) (fun e => ?_)
    · walk_at "rd"
      refine q G false sG ⟨fun e => Bool.noConfusion e, fun hp => ?_⟩
      obtain ⟨b, hb, eb⟩ := List.any_eq_true.mp e
      obtain ⟨c, hc, rfl⟩ := List.mem_map.mp hb
      have eb2 : (!decide (c ∈ abcdG m)) = true := eb
      rw [decide_eq_true (hp.2.1 c hc)] at eb2
      cases eb2
    have hw : ∀ c ∈ w, c ∈ abcdG m := fun c hc => by
      by_cases hh : c ∈ abcdG m
      · exact hh
      · exfalso
        apply e
        refine List.any_eq_true.mpr ⟨true, List.mem_map.mpr ⟨c, hc, ?_⟩, rfl⟩
        rw [decide_eq_false hh]; rfl
    have hwW : isW m w := fun c hc => abcd_isW m4 (hw c hc)
    clear e
    walk_at "rd"
    have hSG := same_t sG hSS
    refine r_lenT hSG ?_
    rw [List.length_map]
    walk_at "rd"
    refine r_iteD (fun h2 => ?_) (fun h2 => ?_)
    · walk_at "rd"
      exact q G false sG ⟨fun e => Bool.noConfusion e, fun hp => by have := hp.2.2.1; omega⟩
    walk_at "rd"
    show tLenSetT K (tVar 2) _ _ _
    refine ⟨_, rfl, t, ss, rfl, hSG, by omega, fun ks nd hmem => ?_⟩
    walk_at "rd"
    refine r_lenT hSG ?_
    rw [List.length_map]
    walk_at "rd"
    refine r_iteD (fun h3 => ?_) (fun h3 => ?_)
    · walk_at "rd"
      exact q G false sG ⟨fun e => Bool.noConfusion e, fun hp => absurd hp.2.2.2.1 ((set_len nd hmem).mp (by omega))⟩
    have hnd : ss.Nodup := by
      by_cases hh : ss.Nodup
      · exact hh
      · exact absurd ((set_len nd hmem).mpr hh) (by omega)
    clear nd hmem
    walk_at "rd"
    refine ⟨⟨_, hSG⟩, fun D2 hD2 => ?_⟩
    refine lc_tup (xs := ss.map V.int) (fun i G2 => Same G G2 ∧ G2 D2 = some (.lst (((ss.take i).map fun s => !(decide (0 ≤ s) && decide (s < (n : Int)))).map V.bl))) ⟨same_new hD2, by rw [upd_same]; rfl⟩ (fun i G2 _ hP => ?_) (fun i x G2 hx hP => ?_) (fun G2 hP => ?_)
    · exact same_t hP.1 hSG
    · obtain ⟨sG2, hG2⟩ := hP
      obtain ⟨s, hs, rfl⟩ : ∃ s, ss[i]? = some s ∧ V.int s = x := by
        rw [List.getElem?_map] at hx
        obtain ⟨s, h1, h2⟩ := Option.map_eq_some_iff.mp hx
        exact ⟨s, h1, h2⟩
      have hil := (List.getElem?_eq_some_iff.mp hs).1
      refine ⟨rfl, r_yes (iteT ?_)⟩
      walk_at "rd"
      have fin : ∀ b : Bool, b = (!(decide (0 ≤ s) && decide (s < (n : Int)))) → ∃ acc, G2 D2 = some (.lst acc) ∧ acc.length < sizeLine ∧ Same G (upd G2 D2 (.lst (acc ++ [.bl b]))) ∧ upd G2 D2 (.lst (acc ++ [.bl b])) D2 = some (.lst (((ss.take (i + 1)).map fun s => !(decide (0 ≤ s) && decide (s < (n : Int)))).map V.bl)) := fun b eb => by
        refine ⟨_, hG2, by rw [List.length_map, List.length_map, List.length_take]; omega, same_mut sG2 hD2, ?_⟩
        rw [upd_same, List.take_add_one, hs, List.map_append, List.map_append, eb]
        rfl
      refine r_iteD (fun e0 => ?_) (fun e0 => ?_)
      · walk_at "rd"
        exact fin _ (by rw [decide_eq_true e0, Bool.true_and])
      · walk_at "rd"
        exact fin _ (by rw [decide_eq_false e0, Bool.false_and])
    obtain ⟨sG2, hG2⟩ := hP
    rw [List.length_map, List.take_length] at hG2
    walk_at "rd"
    refine r_any (SqL.of hG2) ?_
    walk_at "rd"
    have s2 := sG.trans sG2
    refine ite2 (fun e => ?_) (fun e => ?_)
    · walk_at "rd"
      refine q G2 false s2 ⟨fun e => Bool.noConfusion e, fun hp => ?_⟩
      obtain ⟨b, hb, eb⟩ := List.any_eq_true.mp e
      obtain ⟨c, hc, rfl⟩ := List.mem_map.mp hb
      have eb2 : (!(decide (0 ≤ c) && decide (c < (n : Int)))) = true := eb
      have hcc := hp.2.2.2.2.1 c hc
      rw [ok.len] at hcc
      rw [decide_eq_true hcc.1, decide_eq_true hcc.2] at eb2
      cases eb2
    have hrg : ∀ s ∈ ss, 0 ≤ s ∧ s < (n : Int) := fun s hs => by
      by_cases hh : 0 ≤ s ∧ s < (n : Int)
      · exact hh
      · exfalso
        apply e
        refine List.any_eq_true.mpr ⟨true, List.mem_map.mpr ⟨s, hs, ?_⟩, rfl⟩
        by_cases h0 : 0 ≤ s
        · rw [decide_eq_true h0, decide_eq_false (fun z => hh ⟨h0, z⟩)]; rfl
        · rw [decide_eq_false h0]; rfl
    clear e
    walk_at "rd"
    have hSG2 := same_t s2 hSS
    refine ⟨⟨_, hSG2⟩, fun D3 hD3 => ?_⟩
    refine lc_tup (xs := ss.map V.int) (fun i G3 => Same G2 G3 ∧ G3 D3 = some (.lst (((ss.take i).map fun s => ((leadM M s.toNat w : Nat) : Int)).map V.int))) ⟨same_new hD3, by rw [upd_same]; rfl⟩ (fun i G3 _ hP => ?_) (fun i x G3 hx hP => ?_) (fun G3 hP => ?_)
    · exact same_t hP.1 hSG2
    · obtain ⟨sG3, hG3⟩ := hP
      obtain ⟨s, hs, rfl⟩ : ∃ s, ss[i]? = some s ∧ V.int s = x := by
        rw [List.getElem?_map] at hx
        obtain ⟨s, h1, h2⟩ := Option.map_eq_some_iff.mp hx
        exact ⟨s, h1, h2⟩
      have hil := (List.getElem?_eq_some_iff.mp hs).1
      have hsr := hrg s (List.mem_of_getElem? hs)
      refine ⟨rfl, r_yes (iteT ?_)⟩
      walk_at "rd"
      refine ⟨.ref pa, M, n, m, s.toNat, w, ?_, hM.k (sT_of (s2.trans sG3)), ok, m4, by omega, hwW, ?_⟩
      · show [V.ref pa, V.int s, sV w] = [V.ref pa, V.int (s.toNat : Int), sV w]
        rw [Int.toNat_of_nonneg hsr.1]
      refine ⟨_, hG3, by rw [List.length_map, List.length_map, List.length_take]; omega, same_mut sG3 hD3, ?_⟩
      rw [upd_same, List.take_add_one, hs, List.map_append, List.map_append]
      rfl
    obtain ⟨sG3, hG3⟩ := hP
    rw [List.length_map, List.take_length] at hG3
    walk_at "rd"
    have hSG3 := same_t sG3 hSG2
    refine r_star ?_
    walk_at "rd"
    refine r_slT hSG3 ?_ (fun p hp => ?_)
    · rw [six_1, List.length_map]
      omega
    refine ⟨_, _, rfl, .inl (SqT.of upd_same), ?_⟩
    walk_at "rd"
    refine r_ixT (same_t (same_new hp) hSG3) (at_int (by decide) (by omega)) ?_
    walk_at "rd"
    rw [cut_1, ← List.map_drop]
    refine ⟨?_, fun p2 hp2 => ?_⟩
    · rw [List.length_append, List.length_map, List.length_drop]
      show _ + 1 ≤ _
      omega
    have eB : List.map V.int (ss.drop 1) ++ [V.int (ss.getD (0 : Int).toNat 0)] = (ss.drop 1 ++ [ss.getD 0 0]).map V.int := by rw [List.map_append]; rfl
    rw [eB]
    refine r_eqD (dp_ints (SqL.of ((same_new hp2) _ _ ((same_new hp) _ _ hG3)))) (dp_ints (SqL.of upd_same)) (shaped_ints _) (shaped_ints _) ?_
    rw [eqv_lists]
    refine q _ _ (s2.trans (sG3.trans ((same_new hp).trans (same_new hp2)))) ?_
    rw [decide_eq_true_iff, rot_iff _ ss (by omega)]
    refine ⟨fun hall => ⟨fun e => ?_, hw, by omega, hnd, by rw [ok.len]; exact hrg, hall⟩, fun hp => hp.2.2.2.2.2⟩
    rw [e] at h1
    exact h1 (by decide)
end

section
variable {P : Program} {w : World} {K : PySem.W.Frag} {mg : Str → Option Value} {base : Heap} {a : Ad}
def spAround (K : PySem.W.Frag) : Sp := fun vs H Q _ => ∃ (v : V) (M : Mac) (n m s : Nat) (w : List Nat), vs = [v, iV s, sV w] ∧ Dt K H v (macD M) ∧ MacOk M n m ∧ m ≤ 4 ∧ s < n ∧ n ≤ 40 ∧ isW m w ∧
  ∀ (H' : Hp) (p : Addr) (r : List Int), Same H H' → H p = none → H' p = some (.lst (r.map V.int)) → 1 ≤ r.length → r.length ≤ 41 → Q (.ref p) H'
theorem ok_l_around (T : Txt K mg a) : FnOk P w K mg base CX0 2 a.f_l_around a.d_l_around ["machine", "state", "word"] (spAround K) := by
  have G_l_lead := ok_l_lead (P := P) (w := w) (base := base) T
  refine T.F_l_around.ok sc_l_around (fun vs H Q E h => ?_) (fun cdv A outer s H vs Q E hr h => ?_)
  · obtain ⟨v, M, n, m, s, w, rfl, _⟩ := h
    rfl
  · obtain ⟨v, M, n, m, s0, w, rfl, hM, ok, m4, hs, n40, hw, q⟩ := h
    have zl : (sizeLine : Nat) = 16777216 := by decide
    obtain ⟨pa, st, gd, rows, rfl, hA, hSt, hRows, hG⟩ := macE hM
    have erl : rows.length = n := by have := hRows.len; rw [List.length_map, ok.len] at this; exact this
    refine ⟨_, (pss_cons (ps_set (i := 3) sc_l_around.nd rfl (Or.inl rfl) (pe_lst (pa_cons (pv 1) pa_nil)))
      (pss_cons (ps_for PassesOwn.never rfl (pi_range1 (by rfl) T.z_range (pa_cons (pe_callB (call_lenQK (K := K) rfl) (by rfl) T.z_len (by decide +kernel) (pa_cons (pe_ix (ix_tupK (K := K) rfl) (pv 0) pe_int (fun _ _ => rfl)) pa_nil)) pa_nil)) (pg_name (i := 4) sc_l_around.nd rfl (Or.inl rfl)) (pss_cons (ps_expr (bmK (K := K) rfl (pe_bm PySem.F.plainAttrs_list PySem.F.slot_list_append PySem.F.type_list_append mt_append (pv 3) (pa_cons (pe_call (G_l_lead) (hr.mono (by first | decide | omega)) (by rfl) T.g_l_lead T.F_l_lead.kp T.b_l_lead .nil pass0 (pa_cons (pv 0) (pa_cons (pe_ix (ix_listK (K := K) rfl) (pv 3) (pe_un un_neg pe_int) (fun _ _ => rfl)) (pa_cons (pv 2) pa_nil)))) pa_nil))))
      (pss_one (ps_if (pt_cmpR (op_inK (K := K) rfl) (pe_ix (ix_listK (K := K) rfl) (pv 3) (pe_un un_neg pe_int) (fun _ _ => rfl)) (pe_slice (sl_listK (K := K) rfl) (pv 3) po_none (po_some (pe_un un_neg pe_int))) (by rfl)) (pss_one (ps_ret (pe_slice (sl_listK (K := K) rfl) (pv 3) (po_some (bmK (K := K) rfl (pe_bm PySem.F.plainAttrs_list PySem.F.slot_list_index PySem.F.type_list_index (mt_indexLK (K := K) rfl) (pv 3) (pa_cons (pe_ix (ix_listK (K := K) rfl) (pv 3) (pe_un un_neg pe_int) (fun _ _ => rfl)) pa_nil)))) (po_some (pe_un un_neg pe_int))))) pss_nil))))
      (pss_one (ps_ret (pv 3))))), ?_⟩
    walk_at "rd"
    refine ⟨ln1, fun pr hpr => ?_⟩
    walk_at "rd"
    refine r_ixT (same_t (same_new hpr) hA) (at_of (j := 0) rfl rfl) ?_
    walk_at "rd"
    refine r_lenT (same_t (same_new hpr) hSt) ?_
    rw [erl]
    refine r_rng1' (by omega) (by omega) ?_
    rw [Int.toNat_natCast]
    refine for_range (lo := 0) (n := n) (fun i σ G => ∃ r0 x y4, σ = [some (.ref pa), some (iV s0), some (sV w), some (.ref pr), y4] ∧ Same H G ∧ G pr = some (.lst ((r0 ++ [x]).map iV)) ∧ r0.length = i ∧ x < n)
      ⟨[], s0, none, rfl, same_new hpr, upd_same, rfl, hs⟩ (fun i σ G hi hP => ?_) (fun σ G hP => ?_)
    · obtain ⟨r0, x, y4, rfl, sG, hR, hl, hx⟩ := hP
      walk_at "rd"
      refine ⟨ty_l (SqL.of hR), ?_⟩
      walk_at "rd"
      refine r_ixL (v := iV x) (SqL.of hR) (by rw [List.map_append]; exact atI_last _ _) ?_
      walk_at "rd"
      refine ⟨.ref pa, M, n, m, x, w, rfl, hM.k (sT_of sG), ok, m4, hx, hw, ?_⟩
      walk_at "rd"
      refine r_append hR (by rw [List.length_map, List.length_append]; show _ + 1 < _; omega) ?_
      have hx2 := leadM_lt ok w x hx hw
      generalize leadM M x w = y at hx2 ⊢
      have hR2 : (upd G pr (.lst ((r0 ++ [x]).map iV ++ [iV y]))) pr = some (.lst (((r0 ++ [x]) ++ [y]).map iV)) := by rw [upd_same, List.map_append (l₁ := r0 ++ [x])]; rfl
      have sG2 : Same H (upd G pr (.lst ((r0 ++ [x]).map iV ++ [iV y]))) := same_mut sG hpr
      generalize upd G pr (.lst ((r0 ++ [x]).map iV ++ [iV y])) = G1 at hR2 sG2 ⊢
      walk_at "rd"
      refine r_ixL (v := iV y) (SqL.of hR2) (by rw [List.map_append]; exact atI_last _ _) ?_
      walk_at "rd"
      refine r_slL (SqL.of hR2) (fun p2 hp2 => ?_)
      have ec : cutV (((r0 ++ [x]) ++ [y]).map iV) none (some (-1)) = ((r0 ++ [x]).map fun k : Nat => (k : Int)).map V.int := by
        rw [List.map_append (l₁ := r0 ++ [x]), ← ints_nat]
        exact cut_init _ _
      rw [ec]
      refine r_inL (SqL.of upd_same) ?_
      have sG3 := sG2.trans (same_new (o := .lst (((r0 ++ [x]).map fun k : Nat => (k : Int)).map V.int)) hp2)
      have hR3 : (upd G1 p2 (.lst (((r0 ++ [x]).map fun k : Nat => (k : Int)).map V.int))) pr = some (.lst (((r0 ++ [x]) ++ [y]).map iV)) := (same_new hp2) _ _ hR2
      generalize upd G1 p2 (.lst (((r0 ++ [x]).map fun k : Nat => (k : Int)).map V.int)) = G2 at sG3 hR3 ⊢
      walk_at "rd"
      refine r_iteD (fun hin => ?_) (fun _ => ?_)
      · have hin2 : ((y : Nat) : Int) ∈ (((r0 ++ [x]) ++ [y]).map fun k : Nat => (k : Int)) := by rw [List.map_append (l₁ := r0 ++ [x])]; exact List.mem_append_left _ hin
        walk_at "rd"
        refine ⟨ty_l (SqL.of hR3), ?_⟩
        walk_at "rd"
        refine r_ixL (v := iV y) (SqL.of hR3) (by rw [List.map_append]; exact atI_last _ _) ?_
        walk_at "rd"
        refine r_indexL (g := ((r0 ++ [x]) ++ [y]).map fun k : Nat => (k : Int)) (by rw [← ints_nat]; exact SqL.of hR3) hin2 ?_
        walk_at "rd"
        refine r_slL (SqL.of hR3) (fun p3 hp3 => ?_)
        have hlt : (((r0 ++ [x]) ++ [y]).map fun k : Nat => (k : Int)).idxOf (y : Int) < (r0 ++ [x]).length := by
          rw [List.map_append (l₁ := r0 ++ [x]), List.idxOf_append, if_pos hin]
          have := List.idxOf_lt_length_of_mem hin
          rw [List.length_map] at this
          exact this
        obtain ⟨ys, ey, ly, my⟩ := cutV_map iV ((r0 ++ [x]) ++ [y]) (some (((((r0 ++ [x]) ++ [y]).map fun k : Nat => (k : Int)).idxOf (y : Int) : Nat) : Int)) (some (-1))
        have el := cut_mid (((r0 ++ [x]) ++ [y]).map iV) ((((r0 ++ [x]) ++ [y]).map fun k : Nat => (k : Int)).idxOf (y : Int))
        rw [ey, List.length_map, List.length_map, List.length_append] at el
        rw [List.length_append (as := r0 ++ [x]), List.length_append] at ly
        rw [List.length_append] at hlt el
        refine q _ p3 (ys.map fun k : Nat => (k : Int)) (sG3.trans (same_new hp3)) (sG3.free hp3) ?_ ?_ ?_
        · rw [upd_same, ← ints_nat, ← ey]
        · rw [List.length_map, el]
          show 1 ≤ _ + 1 + 1 - 1 - _
          have : r0.length + [x].length = r0.length + 1 := rfl
          omega
        · rw [List.length_map]
          have : r0.length + [x].length + [y].length = r0.length + 1 + 1 := rfl
          omega
      · walk_at "rd"
        exact ⟨r0 ++ [x], y, _, rfl, sG3, hR3, by rw [List.length_append, hl]; rfl, hx2⟩
    · obtain ⟨r0, x, y4, rfl, sG, hR, hl, hx⟩ := hP
      walk_at "rd"
      refine q G pr ((r0 ++ [x]).map fun k : Nat => (k : Int)) sG hpr (by rw [← ints_nat]; exact hR) ?_ ?_
      · rw [List.length_map, List.length_append]; exact Nat.le_add_left _ _
      · rw [List.length_map, List.length_append, hl]; show n + 1 ≤ 41; omega
end

section
variable {P : Program} {w : World} {K : PySem.W.Frag} {mg : Str → Option Value} {base : Heap} {a : Ad}
def spRight (K : PySem.W.Frag) : Sp := fun vs H Q _ => ∃ (v : V) (M : Mac) (n m : Nat) (w : List Nat) (t : Addr) (ss : List Int), vs = [v, sV w, .ref t] ∧ Dt K H v (macD M) ∧ MacOk M n m ∧ 1 ≤ n ∧ n ≤ 40 ∧ m ≤ 4 ∧
  w.length ≤ 10000 ∧ (∀ c ∈ w, c < 1000) ∧ SqT K H t (ss.map V.int) ∧ ss.length ≤ 100 ∧ ∀ (H' : Hp) (b : Bool), Same H H' → (b = true ↔ ringP M m w ss) → Q (.bl b) H'
theorem emp_str (w : List Nat) : (⟨w.toArray⟩ : Str) = Str.ofString "" ↔ w = [] := by
  have e : Str.ofString "" = (⟨#[]⟩ : Str) := by decide +kernel
  rw [e]
  constructor
  · intro h
    have h2 : w.toArray = #[] := congrArg Str.cps h
    simpa using h2
  · rintro rfl
    rfl
theorem ok_l_is_right (T : Txt K mg a) : FnOk P w K mg base CX0 2 a.f_l_is_right a.d_l_is_right ["machine", "word", "states"] (spRight K) := by
  have G_l_lead := ok_l_lead (P := P) (w := w) (base := base) T
  refine T.F_l_is_right.ok sc_l_is_right (fun vs H Q E h => ?_) (fun cdv A outer s H vs Q E hr h => ?_)
  · obtain ⟨v, M, n, m, w, t, ss, rfl, _⟩ := h
    rfl
  · obtain ⟨v, M, n, m, w, t, ss, rfl, hM, ok, n1, n40, m4, hwl, hw1000, hSS, hsl, q⟩ := h
    have zl : (sizeLine : Nat) = 16777216 := by decide
    obtain ⟨pa, st, gd, rows, rfl, hA, hSt, hRows, hG⟩ := macE hM
    have erl : rows.length = n := by have := hRows.len; rw [List.length_map, ok.len] at this; exact this
    obtain ⟨p0, g0, hR0⟩ := rowsE (s := 0) hRows (by rw [ok.len]; omega)
    have hrl0 := (ok.rowAt (s := 0) (by omega)).1
    refine ⟨_, (pss_cons (ps_if (PW.pt (pw_or (pt_cmpR op_eq (pv 1) pe_str (nomark _)) (pw_or (pt_cmpR op_lt (pe_callB (call_lenQK (K := K) rfl) (by rfl) T.z_len (by decide +kernel) (pa_cons (pv 2) pa_nil)) pe_int (nomark _)) (pw_or1 (pt_cmpR (op_neDK (K := K) rfl hr.units) (pe_lc (own := [("char", 4)]) (g := gName 4) rfl sc_l_is_right.nd (pi_str (pv 1)) (blkOk_by (N := N_l_is_right) (sc := (defScope s_l_is_right)) (by decide +kernel)) (fun _ _ _ _ _ => pg_name (i := 4) sc_l_is_right.nd rfl (by first | exact Or.inl rfl | exact Or.inr rfl)) (fun _ _ _ _ _ => (pts_one (pt_cmpR op_notInSg (pv 4) (pe_slice sl_str pe_str po_none (po_some (pe_callB (call_lenQK (K := K) rfl) (by rfl) T.z_len (by decide +kernel) (pa_cons (pe_ix (ix_tupK (K := K) rfl) (pe_ix (ix_tupK (K := K) rfl) (pv 0) pe_int (fun _ _ => rfl)) pe_int (fun _ _ => rfl)) pa_nil)))) (by rfl)))) (fun _ _ _ _ _ => (pv 4))) (pe_lst pa_nil) (nomark _)))))) (pss_one (ps_ret pe_bl)) pss_nil)
      (pss_cons (ps_for PassesOwn.never rfl (pi_range1 (by rfl) T.z_range (pa_cons (pe_callB (call_lenQK (K := K) rfl) (by rfl) T.z_len (by decide +kernel) (pa_cons (pv 2) pa_nil)) pa_nil)) (pg_name (i := 3) sc_l_is_right.nd rfl (Or.inl rfl)) (pss_one (ps_if (PW.pt (pw_or (pt_cmpR op_lt (pe_ix (ix_tupK (K := K) rfl) (pv 2) (pv 3) (fun _ _ => rfl)) pe_int (nomark _)) (pw_or (pt_cmpR op_ge (pe_ix (ix_tupK (K := K) rfl) (pv 2) (pv 3) (fun _ _ => rfl)) (pe_callB (call_lenQK (K := K) rfl) (by rfl) T.z_len (by decide +kernel) (pa_cons (pe_ix (ix_tupK (K := K) rfl) (pv 0) pe_int (fun _ _ => rfl)) pa_nil)) (nomark _)) (pw_or1 (pt_cmpR (op_inK (K := K) rfl) (pe_ix (ix_tupK (K := K) rfl) (pv 2) (pv 3) (fun _ _ => rfl)) (pe_slice (sl_tupK (K := K) rfl) (pv 2) po_none (po_some (pv 3))) (by rfl)))))) (pss_one (ps_ret pe_bl)) pss_nil)))
      (pss_cons (ps_for PassesOwn.never rfl (pi_range1 (by rfl) T.z_range (pa_cons (pe_callB (call_lenQK (K := K) rfl) (by rfl) T.z_len (by decide +kernel) (pa_cons (pv 2) pa_nil)) pa_nil)) (pg_name (i := 3) sc_l_is_right.nd rfl (Or.inl rfl)) (pss_one (ps_if (pt_cmpR op_ne (pe_call (G_l_lead) (hr.mono (by first | decide | omega)) (by rfl) T.g_l_lead T.F_l_lead.kp T.b_l_lead .nil pass0 (pa_cons (pv 0) (pa_cons (pe_ix (ix_tupK (K := K) rfl) (pv 2) (pv 3) (fun _ _ => rfl)) (pa_cons (pv 1) pa_nil)))) (pe_ix (ix_tupK (K := K) rfl) (pv 2) (pe_op op_mod (pe_op op_add (pv 3) pe_int) (pe_callB (call_lenQK (K := K) rfl) (by rfl) T.z_len (by decide +kernel) (pa_cons (pv 2) pa_nil))) (fun _ _ => rfl)) (nomark _)) (pss_one (ps_ret pe_bl)) pss_nil)))
      (pss_one (ps_ret pe_bl))))), ?_⟩
    walk_at "rd"
    refine r_iteD (fun h1 => ?_) (fun h1 => ?_)
    · walk_at "rd"
      exact q H false (Same.refl H) ⟨fun e => Bool.noConfusion e, fun e => absurd ((emp_str w).mp h1) e.1⟩
    have hne : w ≠ [] := fun e => h1 ((emp_str w).mpr e)
    walk_at "rd"
    refine r_lenT hSS ?_
    rw [List.length_map]
    walk_at "rd"
    refine r_iteD (fun h2 => ?_) (fun h2 => ?_)
    · walk_at "rd"
      exact q H false (Same.refl H) ⟨fun e => Bool.noConfusion e, fun hp => by have := hp.2.2.1; omega⟩
    walk_at "rd"
    intro D hD
    refine lc_str (fun i G => Same H G ∧ G D = some (.lst (((w.take i).filter fun c => !decide (c ∈ abcdG m)).map sgV))) ⟨same_new hD, by rw [upd_same]; rfl⟩ (fun i c G hc hP => ?_) (fun G hP => ?_)
    · obtain ⟨sG, hG1⟩ := hP
      have hc' : w[i]? = some c := by simpa using hc
      have hil := (List.getElem?_eq_some_iff.mp hc').1
      have ets : w.take (i + 1) = w.take i ++ [c] := by rw [List.take_add_one, hc']; rfl
      refine ⟨rfl, ?_⟩
      walk_at "rd"
      refine r_ixT (same_t sG hA) (at_of (j := 0) rfl rfl) ?_
      walk_at "rd"
      refine r_ixT (same_t sG hSt) (at_of (j := 0) rfl g0) ?_
      walk_at "rd"
      refine r_lenT (same_t sG hR0) ?_
      rw [List.length_map, hrl0]
      walk_at "rd"
      refine r_slS (by decide +kernel) ?_
      rw [cut_abcd m4]
      refine r_notInSg ?_
      walk_at "rd"
      refine r_iteN (fun hin => ?_) (fun hin => ?_)
      · walk_at "rd"
        refine ⟨_, hG1, ?_, same_mut sG hD, ?_⟩
        · rw [List.length_map]
          have := List.length_filter_le (fun c => !decide (c ∈ abcdG m)) (w.take i)
          rw [List.length_take] at this
          omega
        · rw [upd_same, ets, List.filter_append, List.map_append, List.filter_cons_of_pos (by rw [decide_eq_false (show ¬ c ∈ abcdG m from hin)]; rfl)]
          rfl
      · refine ⟨sG, ?_⟩
        rw [ets, List.filter_append, List.filter_cons_of_neg (by rw [decide_eq_true (show c ∈ abcdG m from hin)]; decide)]
        rw [List.filter_nil, List.append_nil]
        exact hG1
    obtain ⟨sG, hG1⟩ := hP
    have et : w.take (⟨w.toArray⟩ : Str).cps.size = w := by
      show w.take w.toArray.size = w
      rw [List.size_toArray, List.take_length]
    rw [et] at hG1
    walk_at "rd"
    refine ⟨Nat.zero_le _, fun pe hpe => ?_⟩
    refine r_neD (dp_signs (SqL.of ((same_new hpe) _ _ hG1))) (.lst (SqL.of upd_same) .nil) (shaped_signs fun c hc => hw1000 c (List.mem_filter.mp hc).1) (by decide) ?_
    rw [eqv_signs_nil]
    have sE := sG.trans (same_new (o := .lst []) hpe)
    generalize upd G pe (.lst []) = G1 at sE ⊢
    walk_at "rd"
    refine r_iteN (fun h3 => ?_) (fun h3 => ?_)
    · walk_at "rd"
      refine q G1 false sE ⟨fun e => Bool.noConfusion e, fun hp => absurd ?_ h3⟩
      refine List.filter_eq_nil_iff.mpr fun c hc => ?_
      rw [decide_eq_true (hp.2.1 c hc)]
      decide
    have hw : ∀ c ∈ w, c ∈ abcdG m := fun c hc => by
      have := List.filter_eq_nil_iff.mp h3 c hc
      by_cases hh : c ∈ abcdG m
      · exact hh
      · rw [decide_eq_false hh] at this
        exact absurd rfl this
    have hwW : isW m w := fun c hc => abcd_isW m4 (hw c hc)
    walk_at "rd"
    have hS1 := same_t sE hSS
    refine r_lenT hS1 ?_
    rw [List.length_map]
    refine r_rng1' (by omega) (by omega) ?_
    rw [Int.toNat_natCast]
    refine for_range (lo := 0) (n := ss.length) (fun i σ G => ∃ y3, σ = [some (.ref pa), some (sV w), some (.ref t), y3, none] ∧ Same H G ∧ (ss.take i).Nodup ∧ ∀ s ∈ ss.take i, 0 ≤ s ∧ s < (n : Int)) ⟨_, rfl, sE, .nil, fun s hs => nomatch hs⟩ (fun i σ G hi hP => ?_) (fun σ G hP => ?_)
    · obtain ⟨y3, rfl, sG, hnd, hrg⟩ := hP
      rw [Int.zero_add]
      have gs : ss[i]? = some (ss.getD i 0) := by rw [List.getD_eq_getElem?_getD, List.getElem?_eq_getElem hi]; rfl
      have ets : ss.take (i + 1) = ss.take i ++ [ss.getD i 0] := by rw [List.take_add_one, gs]; rfl
      have hmem : ss.getD i 0 ∈ ss := List.mem_of_getElem? gs
      have hS2 := same_t sG hSS
      walk_at "rd"
      refine r_ixT hS2 (at_int (by omega) (by omega)) ?_
      rw [Int.toNat_natCast]
      walk_at "rd"
      refine r_iteD (fun e0 => ?_) (fun e0 => ?_)
      · walk_at "rd"
        exact q G false sG ⟨fun e => Bool.noConfusion e, fun hp => by have := (hp.2.2.2.2.1 _ hmem).1; omega⟩
      walk_at "rd"
      refine r_ixT hS2 (at_int (by omega) (by omega)) ?_
      rw [Int.toNat_natCast]
      walk_at "rd"
      refine r_ixT (same_t sG hA) (at_of (j := 0) rfl rfl) ?_
      walk_at "rd"
      refine r_lenT (same_t sG hSt) ?_
      rw [erl]
      walk_at "rd"
      refine r_iteD (fun e1 => ?_) (fun e1 => ?_)
      · walk_at "rd"
        exact q G false sG ⟨fun e => Bool.noConfusion e, fun hp => by have := (hp.2.2.2.2.1 _ hmem).2; rw [ok.len] at this; omega⟩
      walk_at "rd"
      refine r_ixT hS2 (at_int (by omega) (by omega)) ?_
      rw [Int.toNat_natCast]
      walk_at "rd"
      refine r_slT hS2 ?_ (fun p2 hp2 => ?_)
      · rw [HT.sIx_nat, List.length_map]
        omega
      rw [cut_to _ _ (by rw [List.length_map]; omega), ← List.map_take]
      refine r_inT (SqT.of upd_same) ?_
      have sG2 := sG.trans (same_new (o := .tup ((ss.take i).map V.int)) hp2)
      generalize upd G p2 (.tup ((ss.take i).map V.int)) = G2 at sG2 ⊢
      walk_at "rd"
      refine r_iteD (fun e2 => ?_) (fun e2 => ?_)
      · walk_at "rd"
        refine q G2 false sG2 ⟨fun e => Bool.noConfusion e, fun hp => ?_⟩
        have hn := hp.2.2.2.1
        rw [← List.take_append_drop (i + 1) ss, ets] at hn
        have hn1 := (List.nodup_append.mp (List.nodup_append.mp hn).1).2.2
        exact absurd rfl (hn1 _ e2 _ (List.mem_singleton.mpr rfl))
      · walk_at "rd"
        refine ⟨_, rfl, sG2, ?_, fun s hs => ?_⟩
        · rw [ets]
          refine List.nodup_append.mpr ⟨hnd, (List.nodup_cons.mpr ⟨List.not_mem_nil, List.nodup_nil⟩), fun x hx y hy e => ?_⟩
          rw [List.mem_singleton.mp hy] at e
          exact e2 (e ▸ hx)
        · rw [ets] at hs
          rcases List.mem_append.mp hs with hs | hs
          · exact hrg s hs
          · rw [List.mem_singleton.mp hs]; omega
    obtain ⟨y3, rfl, sG, hnd, hrg⟩ := hP
    rw [List.take_length] at hnd hrg
    walk_at "rd"
    have hS2 := same_t sG hSS
    refine r_lenT hS2 ?_
    rw [List.length_map]
    refine r_rng1' (by omega) (by omega) ?_
    rw [Int.toNat_natCast]
    have hM2 := hM.k (sT_of sG)
    have hpos : (0 : Int) < (ss.length : Int) := by omega
    refine for_range (lo := 0) (n := ss.length) (fun i σ G2 => ∃ y3, σ = [some (.ref pa), some (sV w), some (.ref t), y3, none] ∧ G2 = G ∧ ∀ k, k < i → ((leadM M (ss.getD k 0).toNat w : Nat) : Int) = ss.getD ((k + 1) % ss.length) 0) ⟨_, rfl, rfl, fun k hk => absurd hk (Nat.not_lt_zero _)⟩ (fun i σ G2 hi hP => ?_) (fun σ G2 hP => ?_)
    · obtain ⟨y3, rfl, rfl, hall⟩ := hP
      rw [Int.zero_add]
      have gs : ss[i]? = some (ss.getD i 0) := by rw [List.getD_eq_getElem?_getD, List.getElem?_eq_getElem hi]; rfl
      have hsr := hrg _ (List.mem_of_getElem? gs)
      walk_at "rd"
      refine r_ixT hS2 (at_int (by omega) (by omega)) ?_
      rw [Int.toNat_natCast]
      walk_at "rd"
      refine ⟨.ref pa, M, n, m, (ss.getD i 0).toNat, w, ?_, hM2, ok, m4, by omega, hwW, ?_⟩
      · show [V.ref pa, V.int (ss.getD i 0), sV w] = [V.ref pa, V.int ((ss.getD i 0).toNat : Int), sV w]
        rw [Int.toNat_of_nonneg hsr.1]
      walk_at "rd"
      refine r_lenT hS2 ?_
      rw [List.length_map]
      refine r_mod hpos ?_
      have em : ((i : Int) + 1) % (ss.length : Int) = (((i + 1) % ss.length : Nat) : Int) := (Int.natCast_emod (i + 1) ss.length).symm
      rw [em]
      refine r_ixT hS2 (at_int (Int.natCast_nonneg _) (Int.ofNat_lt.mpr (Nat.mod_lt (i + 1) (show 0 < ss.length by omega)))) ?_
      rw [Int.toNat_natCast]
      refine r_neI ?_
      walk_at "rd"
      refine r_iteN (fun e => ?_) (fun e => ?_)
      · walk_at "rd"
        exact q _ false sG ⟨fun e => Bool.noConfusion e, fun hp => absurd (hp.2.2.2.2.2 i hi) e⟩
      · walk_at "rd"
        refine ⟨_, rfl, rfl, fun k hk => ?_⟩
        rcases Nat.lt_succ_iff_lt_or_eq.mp hk with hk | hk
        · exact hall k hk
        · rw [hk]; exact e
    obtain ⟨y3, rfl, rfl, hall⟩ := hP
    walk_at "rd"
    exact q _ true sG ⟨fun _ => ⟨hne, hw, by omega, hnd, by rw [ok.len]; exact hrg, hall⟩, fun _ => rfl⟩
end

section
variable {P : Program} {w : World} {K : PySem.W.Frag} {mg : Str → Option Value} {base : Heap} {a : Ad}
def spSpoilt (K : PySem.W.Frag) : Sp := fun vs H Q _ => ∃ (p q : Addr) (r ns : List Int) (n : Nat), vs = [.ref p, .ref q, .int (n : Int)] ∧ SqL K H p (r.map V.int) ∧ 1 ≤ r.length ∧ r.length ≤ 41 ∧ SqL K H q (ns.map V.int) ∧ 4 ≤ ns.length ∧ 1 ≤ n ∧
  ∀ (H' : Hp) (t : Addr) (ss : List Int), Same H H' → SqT K H' t (ss.map V.int) → ss.length ≤ 100 → Q (.ref t) H'
theorem menu3 (a b c : Int) {j : Nat} (h : j < 3) : ∃ d : Int, [V.int a, V.int b, V.int c][j]? = some (.int d) := by
  match j, h with
  | 0, _ => exact ⟨a, rfl⟩
  | 1, _ => exact ⟨b, rfl⟩
  | 2, _ => exact ⟨c, rfl⟩
theorem ok_l_spoilt (T : Txt K mg a) : FnOk P w K mg base CX0 1 a.f_l_spoilt a.d_l_spoilt ["states", "numbers", "count"] (spSpoilt K) := by
  refine T.F_l_spoilt.ok sc_l_spoilt (fun vs H Q E h => ?_) (fun cdv A outer s H vs Q E hr h => ?_)
  · obtain ⟨p, q, r, ns, n, rfl, _⟩ := h
    rfl
  · obtain ⟨p, q0, r, ns, n, rfl, hR, r1, r41, hN, n4, hn1, q⟩ := h
    have zl : (sizeLine : Nat) = 16777216 := by decide
    have hn0 : (0 : Int) < (n : Int) := by omega
    refine ⟨_, (pss_cons (ps_set (i := 3) sc_l_spoilt.nd rfl (Or.inl rfl) (pe_op op_mod (pe_ix (ix_listK (K := K) rfl) (pv 1) pe_int (fun _ _ => rfl)) pe_int))
      (pss_cons (ps_set (i := 4) sc_l_spoilt.nd rfl (Or.inl rfl) (pe_callTy (call_lstOfK (K := K) rfl) (by rfl) T.z_list (by decide +kernel) (pa_cons (pv 0) pa_nil)))
      (pss_cons (ps_set (i := 5) sc_l_spoilt.nd rfl (Or.inl rfl) (pe_op op_mod (pe_ix (ix_listK (K := K) rfl) (pv 1) pe_int (fun _ _ => rfl)) (pe_callB (call_lenQK (K := K) rfl) (by rfl) T.z_len (by decide +kernel) (pa_cons (pv 4) pa_nil))))
      (pss_cons (ps_if (pt_cmpR op_eq (pv 3) pe_int (nomark _)) (pss_one (ps_set (i := 4) sc_l_spoilt.nd rfl (Or.inl rfl) (pe_op op_cat (pe_slice (sl_listK (K := K) rfl) (pv 4) (po_some (pv 5)) po_none) (pe_slice (sl_listK (K := K) rfl) (pv 4) po_none (po_some (pv 5)))))) pss_nil)
      (pss_cons (ps_if (pt_cmpR op_eq (pv 3) pe_int (nomark _)) (pss_one (ps_set (i := 4) sc_l_spoilt.nd rfl (Or.inl rfl) (pe_revLK (K := K) rfl (pv 4)))) pss_nil)
      (pss_cons (ps_if (pt_cmpR op_eq (pv 3) pe_int (nomark _)) (pss_one (ps_expr (bm0K (K := K) rfl (pe_bm0 PySem.F.plainAttrs_list PySem.F.slot_list_pop PySem.F.type_list_pop mt_pop (pv 4))))) pss_nil)
      (pss_cons (ps_if (pt_cmpR op_eq (pv 3) pe_int (nomark _)) (pss_one (ps_set (i := 4) sc_l_spoilt.nd rfl (Or.inl rfl) (pe_op op_cat (pv 4) (pv 4)))) pss_nil)
      (pss_cons (ps_if (pt_cmpR op_eq (pv 3) pe_int (nomark _)) (pss_one (ps_asg (pe_ix (ix_listK (K := K) rfl) (pe_lst (pa_cons (pe_un un_neg pe_int) (pa_cons (pv 2) (pa_cons (pe_op op_mod (pe_ix (ix_listK (K := K) rfl) (pv 1) pe_int (fun _ _ => rfl)) (pv 2)) pa_nil)))) (pe_op op_mod (pe_ix (ix_listK (K := K) rfl) (pv 1) pe_int (fun _ _ => rfl)) pe_int) (fun _ _ => rfl)) (pg_sub (pv 4) (pv 5) set_list))) pss_nil)
      (pss_one (ps_ret (pe_callTy (call_tupOfK (K := K) rfl) (by rfl) T.z_tuple (by decide +kernel) (pa_cons (pv 4) pa_nil)))))))))))), ?_⟩
    walk_at "rd"
    refine r_ixL hN (at_int (by decide) (by omega)) ?_
    walk_at "rd"
    generalize ns.getD (0 : Int).toNat 0 % 8 = so
    refine r_lstL hR (fun pr hpr => ?_)
    walk_at "rd"
    have s1 : Same H (upd H pr (.lst (r.map V.int))) := same_new hpr
    refine r_ixL (s1.seq hN) (at_int (by decide) (by omega)) ?_
    walk_at "rd"
    refine r_lenL (SqL.of upd_same) ?_
    rw [List.length_map]
    have hpos : (0 : Int) < (r.length : Int) := by omega
    refine r_mod hpos ?_
    have hat := emod_rng (ns.getD (1 : Int).toNat 0) hpos
    generalize ns.getD (1 : Int).toNat 0 % (r.length : Int) = at0 at hat ⊢
    with_reducible refine r_cutJ (fun σ G => ∃ (pr : Addr) (xs : List Int), σ = [some (.ref p), some (.ref q0), some (.int (n : Int)), some (.int so), some (.ref pr), some (.int at0)] ∧ Same H G ∧ H pr = none ∧ G pr = some (.lst (xs.map V.int)) ∧ xs.length ≤ 41 ∧ (so ≠ 1 → xs = r)) (fun σ G hJ => ?_) (fun key => ?_)
    rotate_left
    · walk_at "rd"
      refine r_iteD (fun e1 => ?_) (fun e1 => ?_)
      · walk_at "rd"
        refine r_slL (SqL.of upd_same) (fun p2 hp2 => ?_)
        walk_at "rd"
        have h2 := (same_new (o := .lst (cutV (r.map V.int) (some at0) none)) hp2) pr _ upd_same
        refine r_slL (SqL.of h2) (fun p3 hp3 => ?_)
        obtain ⟨xs, ex, lx, mx⟩ := cutV_map V.int r (some at0) none
        obtain ⟨ys, ey, ly, my⟩ := cutV_map V.int r none (some at0)
        have el : (cutV (r.map V.int) (some at0) none).length + (cutV (r.map V.int) none (some at0)).length ≤ r.length := by
          obtain ⟨k, ek, hk⟩ := nat_of hat.1 hat.2
          rw [ek, cut_drop, cut_to _ _ (by rw [List.length_map]; omega), List.length_drop, List.length_take, List.length_map]
          omega
        rw [ex, ey, List.length_map, List.length_map] at el
        rw [ex] at h2 hp3 ⊢
        rw [ey]
        refine r_cat (by rw [upd_ne (ne_of_none upd_same hp3)]; exact upd_same) upd_same (by rw [List.length_map, List.length_map]; omega) (fun p4 hp4 => ?_)
        rw [← List.map_append]
        refine key _ _ ⟨p4, xs ++ ys, rfl, s1.trans ((same_new hp2).trans ((same_new hp3).trans (same_new hp4))), ?_, upd_same, by rw [List.length_append]; omega, fun h => absurd e1 h⟩
        exact (s1.trans ((same_new hp2).trans (same_new hp3))).free hp4
      · exact key _ _ ⟨pr, r, rfl, s1, hpr, upd_same, r41, fun _ => rfl⟩
    clear hpr s1 pr
    obtain ⟨pr, xs, rfl, sG, hpr, hX, lX, eX⟩ := hJ
    with_reducible refine r_cutJ (fun σ G => ∃ (pr : Addr) (xs : List Int), σ = [some (.ref p), some (.ref q0), some (.int (n : Int)), some (.int so), some (.ref pr), some (.int at0)] ∧ Same H G ∧ H pr = none ∧ G pr = some (.lst (xs.map V.int)) ∧ xs.length ≤ 41 ∧ (so ≠ 1 → so ≠ 2 → xs = r)) (fun σ G hJ => ?_) (fun key => ?_)
    rotate_left
    · walk_at "rd"
      refine r_iteD (fun e1 => ?_) (fun e1 => ?_)
      · walk_at "rd"
        show tRevL K (tVar 4) _ _ _
        refine ⟨_, rfl, pr, _, rfl, SqL.of hX, fun p2 hp2 => ?_⟩
        rw [← List.map_reverse]
        exact key _ _ ⟨p2, xs.reverse, rfl, sG.trans (same_new hp2), sG.free hp2, upd_same, by rw [List.length_reverse]; exact lX, fun _ h => absurd e1 h⟩
      · exact key _ _ ⟨pr, xs, rfl, sG, hpr, hX, lX, fun h _ => eX h⟩
    clear hpr sG hX lX eX xs pr
    obtain ⟨pr, xs, rfl, sG, hpr, hX, lX, eX⟩ := hJ
    with_reducible refine r_cutJ (fun σ G => ∃ (pr : Addr) (xs : List Int), σ = [some (.ref p), some (.ref q0), some (.int (n : Int)), some (.int so), some (.ref pr), some (.int at0)] ∧ Same H G ∧ H pr = none ∧ G pr = some (.lst (xs.map V.int)) ∧ xs.length ≤ 41 ∧ (so ≠ 1 → so ≠ 2 → so ≠ 3 → xs = r)) (fun σ G hJ => ?_) (fun key => ?_)
    rotate_left
    · walk_at "rd"
      refine r_iteD (fun e1 => ?_) (fun e1 => ?_)
      · have ex := eX (by omega) (by omega)
        subst ex
        obtain ⟨zs, y, ez⟩ : ∃ zs y, xs = zs ++ [y] := ⟨xs.dropLast, xs.getLast (fun e => by rw [e] at r1; exact absurd r1 (by decide)), (List.dropLast_concat_getLast _).symm⟩
        walk_at "rd"
        refine ⟨_, rfl, ty_l (SqL.of hX), ?_⟩
        refine ⟨pr, _, .int y, rfl, rfl, hX, ?_, ?_⟩
        · rw [ez, List.map_append, List.length_append]
          show (zs.map V.int ++ [V.int y])[(zs.map V.int).length + 1 - 1]? = _
          rw [Nat.add_sub_cancel, List.getElem?_append_right (Nat.le_refl _), Nat.sub_self]
          rfl
        · refine key _ _ ⟨pr, zs, rfl, same_mut sG hpr, hpr, ?_, ?_, fun _ _ h => absurd e1 h⟩
          · rw [upd_same, ez, List.map_append]
            show some (HO.lst (zs.map V.int ++ [V.int y]).dropLast) = _
            rw [List.dropLast_concat]
          · rw [ez, List.length_append] at lX
            omega
      · exact key _ _ ⟨pr, xs, rfl, sG, hpr, hX, lX, fun h h' _ => eX h h'⟩
    clear hpr sG hX lX eX xs pr
    obtain ⟨pr, xs, rfl, sG, hpr, hX, lX, eX⟩ := hJ
    with_reducible refine r_cutJ (fun σ G => ∃ (pr : Addr) (xs : List Int), σ = [some (.ref p), some (.ref q0), some (.int (n : Int)), some (.int so), some (.ref pr), some (.int at0)] ∧ Same H G ∧ H pr = none ∧ G pr = some (.lst (xs.map V.int)) ∧ xs.length ≤ 82 ∧ (so = 5 → xs = r)) (fun σ G hJ => ?_) (fun key => ?_)
    rotate_left
    · walk_at "rd"
      refine r_iteD (fun e1 => ?_) (fun e1 => ?_)
      · walk_at "rd"
        refine r_cat hX hX (by rw [List.length_map]; omega) (fun p2 hp2 => ?_)
        rw [← List.map_append]
        exact key _ _ ⟨p2, xs ++ xs, rfl, sG.trans (same_new hp2), sG.free hp2, upd_same, by rw [List.length_append]; omega, fun h => by omega⟩
      · exact key _ _ ⟨pr, xs, rfl, sG, hpr, hX, by omega, fun h => eX (by omega) (by omega) (by omega)⟩
    clear hpr sG hX lX eX xs pr
    obtain ⟨pr, xs, rfl, sG, hpr, hX, lX, eX⟩ := hJ
    with_reducible refine r_cutJ (fun σ G => ∃ (pr : Addr) (xs : List Int), σ = [some (.ref p), some (.ref q0), some (.int (n : Int)), some (.int so), some (.ref pr), some (.int at0)] ∧ Same H G ∧ G pr = some (.lst (xs.map V.int)) ∧ xs.length ≤ 82) (fun σ G hJ => ?_) (fun key => ?_)
    rotate_left
    · walk_at "rd"
      refine r_iteD (fun e1 => ?_) (fun e1 => ?_)
      · have ex := eX e1
        subst ex
        walk_at "rd"
        refine r_ixL (sG.seq hN) (at_int (by decide) (by omega)) ?_
        walk_at "rd"
        refine ⟨ln3, fun p2 hp2 => ?_⟩
        walk_at "rd"
        have s2 := sG.trans (same_new (o := .lst [V.int (-1), V.int (n : Int), V.int (ns.getD (2 : Int).toNat 0 % (n : Int))]) hp2)
        refine r_ixL (s2.seq hN) (at_int (by decide) (by omega)) ?_
        walk_at "rd"
        have g := emod_rng (ns.getD (3 : Int).toNat 0) (b := 3) (by decide)
        obtain ⟨d, gd⟩ := menu3 (-1) (n : Int) (ns.getD (2 : Int).toNat 0 % (n : Int)) (j := (ns.getD (3 : Int).toNat 0 % 3).toNat) (by omega)
        refine r_ixL (SqL.of upd_same) (at_of (by omega) gd) ?_
        walk_at "rd"
        refine r_setL (by rw [upd_ne (ne_of_none hX hp2)]; exact hX) hat.1 (by rw [List.length_map]; exact hat.2) ?_
        rw [map_set_int]
        exact key _ _ ⟨pr, _, rfl, same_mut s2 hpr, upd_same, by rw [List.length_set]; omega⟩
      · exact key _ _ ⟨pr, xs, rfl, sG, hX, lX⟩
    clear hpr sG hX lX eX xs pr
    obtain ⟨pr, xs, rfl, sG, hX, lX⟩ := hJ
    walk_at "rd"
    refine r_tupL (SqL.of hX) (fun t ht => ?_)
    exact q _ t xs (sG.trans (same_new ht)) (SqT.of upd_same) (by omega)
end

section
variable {P : Program} {w : World} {K : PySem.W.Frag} {mg : Str → Option Value} {base : Heap} {a : Ad}
def sp_law (K : PySem.W.Frag) : Sp := fun vs H Q _ => ∃ (a : Addr) (ns : List Int), vs = [.ref a] ∧ SqL K H a (ns.map V.int) ∧ ns.length ≤ 63 ∧ ∀ H', Q (.bl true) H'
theorem menuS {j : Nat} (h : j < 4) : ∃ c : Nat, c < 1000 ∧ [V.str "d", V.str "e", V.str "A", V.str " "][j]? = some (sgV c) := by
  match j, h with
  | 0, _ => exact ⟨100, by decide, by decide +kernel⟩
  | 1, _ => exact ⟨101, by decide, by decide +kernel⟩
  | 2, _ => exact ⟨65, by decide, by decide +kernel⟩
  | 3, _ => exact ⟨32, by decide, by decide +kernel⟩
theorem ok_law (T : Txt K mg a) : FnOk P w K mg base CX0 3 a.f_law a.d_law ["script"] (sp_law K) := by
  have G_l_around := ok_l_around (P := P) (w := w) (base := base) T
  have G_l_cell := ok_l_cell (P := P) (w := w) (base := base) T
  have G_l_is_right := ok_l_is_right (P := P) (w := w) (base := base) T
  have G_l_machine := ok_l_machine (P := P) (w := w) (base := base) T
  have G_l_numbers := ok_l_numbers (P := P) (w := w) (base := base) T
  have G_l_spoilt := ok_l_spoilt (P := P) (w := w) (base := base) T
  have G_l_word := ok_l_word (P := P) (w := w) (base := base) T
  have G_is_ring := ok_is_ring (P := P) (w := w) (base := base) T
  refine T.F_law.ok sc_law (fun vs H Q E h => ?_) (fun cdv A outer s H vs Q E hr h => ?_)
  · obtain ⟨l, ns, rfl, _⟩ := h
    rfl
  · obtain ⟨l, sc, rfl, hS, _, q⟩ := h
    have zl : (sizeLine : Nat) = 16777216 := by decide
    refine ⟨_, (pss_cons (ps_set (i := 1) sc_law.nd rfl (Or.inl rfl) (pe_call (G_l_numbers) (hr.mono (by first | decide | omega)) (by rfl) T.g_l_numbers T.F_l_numbers.kp T.b_l_numbers .nil pass0 (pa_cons (pe_call (G_l_cell) (hr.mono (by first | decide | omega)) (by rfl) T.g_l_cell T.F_l_cell.kp T.b_l_cell .nil pass0 (pa_cons (pv 0) (pa_cons pe_int pa_nil))) (pa_cons pe_int pa_nil))))
      (pss_cons (ps_set (i := 2) sc_law.nd rfl (Or.inr rfl) (pe_op op_add pe_int (pe_op op_mod (pe_ix (ix_listK (K := K) rfl) (pv 1) pe_int (fun _ _ => rfl)) pe_int)))
      (pss_cons (ps_set (i := 3) sc_law.nd rfl (Or.inr rfl) (pe_op op_add pe_int (pe_op op_mod (pe_ix (ix_listK (K := K) rfl) (pv 1) pe_int (fun _ _ => rfl)) pe_int)))
      (pss_cons (ps_set (i := 4) sc_law.nd rfl (Or.inl rfl) (pe_call (G_l_machine) (hr.mono (by first | decide | omega)) (by rfl) T.g_l_machine T.F_l_machine.kp T.b_l_machine .nil pass0 (pa_cons (pe_call (G_l_cell) (hr.mono (by first | decide | omega)) (by rfl) T.g_l_cell T.F_l_cell.kp T.b_l_cell .nil pass0 (pa_cons (pv 0) (pa_cons pe_int pa_nil))) (pa_cons (pv 2) (pa_cons (pv 3) pa_nil)))))
      (pss_cons (ps_if (pt_cmpR op_eq (pe_op op_mod (pe_ix (ix_listK (K := K) rfl) (pv 1) pe_int (fun _ _ => rfl)) pe_int) pe_int (nomark _)) (pss_cons (ps_set (i := 2) sc_law.nd rfl (Or.inr rfl) (pe_op op_add pe_int (pe_op op_mod (pe_ix (ix_listK (K := K) rfl) (pv 1) pe_int (fun _ _ => rfl)) pe_int)))
      (pss_one (ps_set (i := 4) sc_law.nd rfl (Or.inl rfl) (pe_tup (pa_cons (pe_callTy (call_tupOfK (K := K) rfl) (by rfl) T.z_tuple (by decide +kernel) (pa_cons (pe_lc (own := [("state", 10)]) (g := gName 10) (tt := tYes) rfl sc_law.nd (pi_range1 (by rfl) T.z_range (pa_cons (pv 2) pa_nil)) (blkOk_by (N := N_law) (sc := (defScope s_law)) (by decide +kernel)) (fun _ _ _ _ _ => pg_name (i := 10) sc_law.nd rfl (by first | exact Or.inl rfl | exact Or.inr rfl)) (fun _ _ _ _ _ => pts_nil) (fun _ _ _ _ _ => (pe_callTy (call_tupOfK (K := K) rfl) (by rfl) T.z_tuple (by decide +kernel) (pa_cons (pe_lc (own := [("j", 11)]) (g := gName 11) (tt := tYes) rfl sc_law.nd (pi_range1 (by rfl) T.z_range (pa_cons (pv 3) pa_nil)) (blkOk_by (N := N_law) (sc := (relS (eScope (eArg 0 (eVal 0 (sE (sIn 1 (sIn 4 s_law)))))) (defScope s_law))) (by decide +kernel)) (fun _ _ _ _ _ => pg_name (i := 11) sc_law.nd rfl (by first | exact Or.inl rfl | exact Or.inr rfl)) (fun _ _ _ _ _ => pts_nil) (fun _ _ _ _ _ => (pe_op op_mod (pe_op op_add (pe_op op_add (pv 10) pe_int) (pv 11)) (pv 2)))) pa_nil)))) pa_nil)) (pa_cons pe_int (pa_cons (pe_tup pa_nil) pa_nil))))))) pss_nil)
      (pss_cons (ps_for PassesOwn.never rfl (pi_range1 (by rfl) T.z_range (pa_cons pe_int pa_nil)) (pg_name (i := 5) sc_law.nd rfl (Or.inl rfl)) (pss_cons (ps_set (i := 6) sc_law.nd rfl (Or.inl rfl) (pe_call (G_l_numbers) (hr.mono (by first | decide | omega)) (by rfl) T.g_l_numbers T.F_l_numbers.kp T.b_l_numbers .nil pass0 (pa_cons (pe_op op_add (pe_call (G_l_cell) (hr.mono (by first | decide | omega)) (by rfl) T.g_l_cell T.F_l_cell.kp T.b_l_cell .nil pass0 (pa_cons (pv 0) (pa_cons (pe_op op_add pe_int (pv 5)) pa_nil))) (pv 5)) (pa_cons pe_int pa_nil))))
      (pss_cons (ps_set (i := 7) sc_law.nd rfl (Or.inl rfl) (pe_call (G_l_word) (hr.mono (by first | decide | omega)) (by rfl) T.g_l_word T.F_l_word.kp T.b_l_word .nil pass0 (pa_cons (pe_op op_add (pe_call (G_l_cell) (hr.mono (by first | decide | omega)) (by rfl) T.g_l_cell T.F_l_cell.kp T.b_l_cell .nil pass0 (pa_cons (pv 0) (pa_cons (pe_op op_add pe_int (pv 5)) pa_nil))) (pv 5)) (pa_cons (pv 3) pa_nil))))
      (pss_cons (ps_if (pt_cmpR op_eq (pe_op op_mod (pe_ix (ix_listK (K := K) rfl) (pv 6) pe_int (fun _ _ => rfl)) pe_int) pe_int (nomark _)) (pss_one (ps_set (i := 7) sc_law.nd rfl (Or.inl rfl) (pe_op op_repS (pv 7) pe_int))) pss_nil)
      (pss_cons (ps_set (i := 8) sc_law.nd rfl (Or.inl rfl) (pe_call (G_l_spoilt) (hr.mono (by first | decide | omega)) (by rfl) T.g_l_spoilt T.F_l_spoilt.kp T.b_l_spoilt .nil pass0 (pa_cons (pe_call (G_l_around) (hr.mono (by first | decide | omega)) (by rfl) T.g_l_around T.F_l_around.kp T.b_l_around .nil pass0 (pa_cons (pv 4) (pa_cons (pe_op op_mod (pe_ix (ix_listK (K := K) rfl) (pv 6) pe_int (fun _ _ => rfl)) (pv 2)) (pa_cons (pv 7) pa_nil)))) (pa_cons (pe_slice (sl_listK (K := K) rfl) (pv 6) (po_some pe_int) po_none) (pa_cons (pv 2) pa_nil)))))
      (pss_cons (ps_if (pt_cmpR op_eq (pe_op op_mod (pe_ix (ix_listK (K := K) rfl) (pv 6) pe_int (fun _ _ => rfl)) pe_int) pe_int (nomark _)) (pss_one (ps_set (i := 7) sc_law.nd rfl (Or.inl rfl) (pe_op op_addS (pv 7) (pe_ix (ix_listK (K := K) rfl) (pe_lst (pa_cons pe_str (pa_cons pe_str (pa_cons pe_str (pa_cons pe_str pa_nil))))) (pe_op op_mod (pe_ix (ix_listK (K := K) rfl) (pv 6) pe_int (fun _ _ => rfl)) pe_int) (fun _ _ => rfl))))) pss_nil)
      (pss_cons (ps_set (i := 9) sc_law.nd rfl (Or.inl rfl) (pe_call (G_is_ring) (hr.mono (by first | decide | omega)) (by rfl) T.g_is_ring T.F_is_ring.kp T.b_is_ring .nil pass0 (pa_cons (pv 4) (pa_cons (pv 7) (pa_cons (pv 8) pa_nil)))))
      (pss_one (ps_if (PW.pt (pw_or (pt_not (pt_val (pe_callB (call_isiK1 (K := K) rfl) (by rfl) T.z_isinstance (by decide +kernel) (pa_cons (pv 9) (pa_cons (pe_bltn (by rfl) T.z_bool (v := V.ty "bool") (u := Value.type "bool") (by decide +kernel) rfl) pa_nil))))) (pw_or1 (pt_cmpR op_ne (pv 9) (pe_call (G_l_is_right) (hr.mono (by first | decide | omega)) (by rfl) T.g_l_is_right T.F_l_is_right.kp T.b_l_is_right .nil pass0 (pa_cons (pv 4) (pa_cons (pv 7) (pa_cons (pv 8) pa_nil)))) (nomark _))))) (pss_one (ps_ret pe_bl)) pss_nil)))))))))
      (pss_one (ps_ret pe_bl)))))))), ?_⟩
    walk_at "rd"
    refine ⟨l, sc, 0, rfl, hS, by decide, ?_⟩
    walk_at "rd"
    refine ⟨_, 3, rfl, by omega, fun H1 pn ns s1 hpn hN hlen hz => ?_⟩
    walk_at "rd"
    refine r_ixL (SqL.of hN) (at_int (by decide) (by omega)) ?_
    walk_at "rd"
    refine r_ixL (SqL.of hN) (at_int (by decide) (by omega)) ?_
    walk_at "rd"
    obtain ⟨n, en, n1, n6⟩ : ∃ n : Nat, 1 + ns.getD (0 : Int).toNat 0 % 6 = (n : Int) ∧ 1 ≤ n ∧ n ≤ 6 := by
      have := emod_rng (ns.getD (0 : Int).toNat 0) (b := 6) (by decide)
      exact ⟨(1 + ns.getD (0 : Int).toNat 0 % 6).toNat, by omega, by omega, by omega⟩
    obtain ⟨m, em, m1, m4⟩ : ∃ m : Nat, 1 + ns.getD (1 : Int).toNat 0 % 4 = (m : Int) ∧ 1 ≤ m ∧ m ≤ 4 := by
      have := emod_rng (ns.getD (1 : Int).toNat 0) (b := 4) (by decide)
      exact ⟨(1 + ns.getD (1 : Int).toNat 0 % 4).toNat, by omega, by omega, by omega⟩
    rw [en, em]
    have hS1 := s1.seq hS
    refine ⟨l, sc, 1, rfl, hS1, by decide, ?_⟩
    walk_at "rd"
    refine ⟨_, n, m, rfl, n1, by omega, m1, m4, fun H2 v M s2 hM ok => ?_⟩
    have hN2 := s2 _ _ hN
    with_reducible refine r_cutJ (fun σ G => ∃ v M n, σ = [some (.ref l), some (.ref pn), some (.int ((n : Nat) : Int)), some (.int (m : Int)), some v, none, none, none, none, none, none, none] ∧ Same H2 G ∧ Dt K G v (macD M) ∧ MacOk M n m ∧ 1 ≤ n ∧ n ≤ 40) (fun σ G hJ => ?_) (fun key => ?_)
    rotate_left
    · walk_at "rd"
      refine r_ixL (SqL.of hN2) (at_int (by decide) (by omega)) ?_
      walk_at "rd"
      refine r_iteD (fun e1 => ?_) (fun e1 => ?_)
      · walk_at "rd"
        refine r_ixL (SqL.of hN2) (at_int (by decide) (by omega)) ?_
        walk_at "rd"
        obtain ⟨c, ec, c1, c40⟩ : ∃ c : Nat, 9 + ns.getD (0 : Int).toNat 0 % 32 = (c : Int) ∧ 1 ≤ c ∧ c ≤ 40 := by
          have := emod_rng (ns.getD (0 : Int).toNat 0) (b := 32) (by decide)
          exact ⟨(9 + ns.getD (0 : Int).toNat 0 % 32).toNat, by omega, by omega, by omega⟩
        rw [ec]
        have hc0 : (0 : Int) < (c : Int) := by omega
        refine r_rng1' (by omega) (by omega) ?_
        rw [Int.toNat_natCast]
        intro D2 hD2
        refine lc_range (lo := 0) (n := c) (fun i G2 => Same H2 G2 ∧ ∃ (vs : List V) (rows : List (List Nat)), G2 D2 = some (.lst vs) ∧ DtAll K G2 vs (rows.map rowD) ∧ rows.length = i ∧ ∀ r ∈ rows, r.length = m ∧ ∀ s ∈ r, s < c) ⟨same_new hD2, [], [], upd_same, .nil, rfl, fun r hr => nomatch hr⟩ (fun i G2 hi hP => ?_) (fun G2 hP => ?_)
        · obtain ⟨sG2, vs, rows, hG2, hdt, hrl, hrw⟩ := hP
          refine ⟨rfl, r_yes (iteT ?_)⟩
          walk_at "rd"
          refine r_rng1' (by omega) (by omega) ?_
          rw [Int.toNat_natCast]
          intro D3 hD3
          refine lc_range (lo := 0) (n := m) (fun j G3 => Same G2 G3 ∧ ∃ r : List Nat, G3 D3 = some (.lst (r.map iV)) ∧ r.length = j ∧ ∀ s ∈ r, s < c) ⟨same_new hD3, [], upd_same, rfl, fun s hs => nomatch hs⟩ (fun j G3 hj hP => ?_) (fun G3 hP => ?_)
          · obtain ⟨sG3, r, hG3, hrl3, hr3⟩ := hP
            refine ⟨rfl, r_yes (iteT ?_)⟩
            walk_at "rd"
            have g := emod_rng (0 + (i : Int) + 1 + (0 + (j : Int))) hc0
            obtain ⟨k, ek, hk⟩ := nat_of g.1 g.2
            rw [ek]
            refine ⟨_, hG3, by rw [List.length_map]; omega, same_mut sG3 hD3, r ++ [k], by rw [upd_same, List.map_append]; rfl, by rw [List.length_append, hrl3]; rfl, fun s hs => ?_⟩
            rcases List.mem_append.mp hs with hs | hs
            · exact hr3 s hs
            · rw [List.mem_singleton.mp hs]; omega
          · obtain ⟨sG3, r, hG3, hrl3, hr3⟩ := hP
            walk_at "rd"
            refine r_tupL (SqL.of hG3) (fun t ht => ?_)
            have s4 : Same G2 (upd G3 t (.tup (r.map iV))) := sG3.trans (same_new ht)
            refine ⟨vs, s4 _ _ hG2, ?_, same_mut (sG2.trans s4) hD2, vs ++ [.ref t], rows ++ [r], upd_same, ?_, by rw [List.length_append, hrl]; rfl, fun r' hr' => ?_⟩
            · have := hdt.len
              rw [List.length_map] at this
              omega
            · rw [List.map_append]
              have sT : SameT (upd G3 t (.tup (r.map iV))) (upd (upd G3 t (.tup (r.map iV))) D2 (.lst (vs ++ [.ref t]))) := SameT.lst (s4 _ _ hG2)
              refine (hdt.k ((sT_of s4).trans sT)).snoc (.tup (sT.sq (SqT.of upd_same)) (ofNats r))
            · rcases List.mem_append.mp hr' with hr' | hr'
              · exact hrw r' hr'
              · rw [List.mem_singleton.mp hr']; exact ⟨by omega, hr3⟩
        · obtain ⟨sG2, vs, rows, hG2, hdt, hrl, hrw⟩ := hP
          walk_at "rd"
          refine r_tupL (SqL.of hG2) (fun ts hts => ?_)
          walk_at "rd"
          refine ⟨Nat.zero_le _, fun te hte => ?_⟩
          walk_at "rd"
          refine ⟨ln3, fun t ht => ?_⟩
          have s3 : Same G2 (upd G2 ts (.tup vs)) := same_new hts
          have s5 : Same (upd G2 ts (.tup vs)) (upd (upd (upd G2 ts (.tup vs)) te (.tup [])) t (.tup [V.ref ts, V.int 0, V.ref te])) := (same_new hte).trans (same_new ht)
          refine key _ _ ⟨.ref t, ⟨rows, 0, []⟩, c, rfl, sG2.trans (s3.trans s5), ?_, ⟨hrl, hrw, by show 0 < c; omega, (fun s hs => nomatch hs), .nil⟩, c1, c40⟩
          refine .tup (SqT.of upd_same) (.cons ?_ (.cons (.int _) (.cons ?_ .nil)))
          · exact .tup (SqT.of (s5 _ _ upd_same)) (hdt.k (sT_of (s3.trans s5)))
          · exact .tup (SqT.of ((same_new ht) _ _ upd_same)) .nil
      · exact key _ _ ⟨v, M, n, rfl, Same.refl _, hM, ok, n1, by omega⟩
    clear hM ok n1 n6 en v M n
    obtain ⟨v, M, n, rfl, sG, hM, ok, n1, n40⟩ := hJ
    have hS2 := sG.seq (s2.seq hS1)
    have hn0 : (0 : Int) < (n : Int) := by omega
    walk_at "rd"
    refine r_rng1' (by decide) (by decide) ?_
    refine for_range (lo := 0) (n := 12) (fun i σ G2 => ∃ y5 y6 y7 y8 y9, σ = [some (.ref l), some (.ref pn), some (.int (n : Int)), some (.int (m : Int)), some v, y5, y6, y7, y8, y9, none, none] ∧ Same G G2) ⟨_, _, _, _, _, rfl, Same.refl _⟩ (fun i σ G2 hi hP => ?_) (fun σ G2 hP => ?_)
    · obtain ⟨y5, y6, y7, y8, y9, rfl, sG2⟩ := hP
      walk_at "rd"
      refine ⟨l, sc, _, rfl, sG2.seq hS2, by omega, ?_⟩
      walk_at "rd"
      refine ⟨_, 8, rfl, by omega, fun G3 pd ds s3 hpd hD hdl hdz => ?_⟩
      walk_at "rd"
      refine ⟨l, sc, _, rfl, s3.seq (sG2.seq hS2), by omega, ?_⟩
      walk_at "rd"
      refine ⟨_, m, rfl, m1, m4, fun G4 w s4 hwl hw => ?_⟩
      have hD4 := s4 _ _ hD
      with_reducible refine r_cutJ (fun σ G5 => ∃ w, σ = [some (.ref l), some (.ref pn), some (.int (n : Int)), some (.int (m : Int)), some v, some (.int (0 + (i : Int))), some (.ref pd), some (sV w), y8, y9, none, none] ∧ Same G4 G5 ∧ w.length ≤ 5000 ∧ isW m w) (fun σ G5 hJ => ?_) (fun key => ?_)
      rotate_left
      · walk_at "rd"
        refine r_ixL (SqL.of hD4) (at_int (by decide) (by omega)) ?_
        walk_at "rd"
        refine r_iteD (fun e1 => ?_) (fun e1 => ?_)
        · walk_at "rd"
          refine ⟨w, 200, rfl, rfl, by omega, by decide, ?_⟩
          refine key _ _ ⟨(List.replicate 200 w).flatten, rfl, Same.refl _, ?_, hw.rep 200⟩
          rw [List.length_flatten, List.map_replicate, List.sum_replicate_nat]
          omega
        · exact key _ _ ⟨w, rfl, Same.refl _, by omega, hw⟩
      clear hwl hw w
      obtain ⟨w, rfl, s5, hwl, hw⟩ := hJ
      have hD5 := s5 _ _ hD4
      have sA := sG2.trans (s3.trans (s4.trans s5))
      walk_at "rd"
      refine r_ixL (SqL.of hD5) (at_int (by decide) (by omega)) ?_
      walk_at "rd"
      have g := emod_rng (ds.getD (0 : Int).toNat 0) hn0
      obtain ⟨s0, es, hs0⟩ := nat_of g.1 g.2
      rw [es]
      refine ⟨v, M, n, m, s0, w, rfl, hM.k (sT_of sA), ok, m4, by omega, n40, hw, fun G6 pr r s6 hpr hR r1 r41 => ?_⟩
      walk_at "rd"
      refine r_slL (SqL.of (s6 _ _ hD5)) (fun p7 hp7 => ?_)
      rw [cut_1, ← List.map_drop]
      walk_at "rd"
      have s7 : Same G6 (upd G6 p7 (.lst ((ds.drop 1).map V.int))) := same_new hp7
      refine ⟨pr, p7, r, ds.drop 1, n, rfl, SqL.of (s7 _ _ hR), r1, r41, SqL.of upd_same, by rw [List.length_drop]; omega, n1, fun G8 t ss s8 hSS hsl => ?_⟩
      have hD8 := s8 _ _ (s7 _ _ (s6 _ _ hD5))
      have sB := sA.trans (s6.trans (s7.trans s8))
      with_reducible refine r_cutJ (fun σ G9 => ∃ w, σ = [some (.ref l), some (.ref pn), some (.int (n : Int)), some (.int (m : Int)), some v, some (.int (0 + (i : Int))), some (.ref pd), some (sV w), some (.ref t), y9, none, none] ∧ Same G8 G9 ∧ w.length ≤ 10000 ∧ ∀ c ∈ w, c < 1000) (fun σ G9 hJ => ?_) (fun key => ?_)
      rotate_left
      · have hw1000 : ∀ c ∈ w, c < 1000 := fun c hc => by have := hw c hc; omega
        walk_at "rd"
        refine r_ixL (SqL.of hD8) (at_int (by decide) (by omega)) ?_
        walk_at "rd"
        refine r_iteD (fun e1 => ?_) (fun e1 => ?_)
        · walk_at "rd"
          refine ⟨ln4, fun p9 hp9 => ?_⟩
          walk_at "rd"
          have s9 := same_new (o := .lst [V.str "d", V.str "e", V.str "A", V.str " "]) hp9
          refine r_ixL (SqL.of (s9 _ _ hD8)) (at_int (by decide) (by omega)) ?_
          walk_at "rd"
          have g4 := emod_rng (ds.getD (7 : Int).toNat 0) (b := 4) (by decide)
          obtain ⟨c, hc, gc⟩ := menuS (j := (ds.getD (7 : Int).toNat 0 % 4).toNat) (by omega)
          refine r_ixL (SqL.of upd_same) (at_of (by omega) gc) ?_
          refine r_addS (i := ⟨w.toArray⟩) (j := ⟨[c].toArray⟩) ?_ ?_
          · rw [str_len, str_len]
            show _ + 1 ≤ _
            omega
          · rw [str_app]
            refine key _ _ ⟨w ++ [c], rfl, s9, ?_, fun d hd => ?_⟩
            · rw [List.length_append]
              show _ + 1 ≤ _
              omega
            · rcases List.mem_append.mp hd with hd | hd
              · exact hw1000 d hd
              · rw [List.mem_singleton.mp hd]; exact hc
        · exact key _ _ ⟨w, rfl, Same.refl _, by omega, hw1000⟩
      clear hwl hw w
      obtain ⟨w, rfl, s9, hwl, hw⟩ := hJ
      have sC := sB.trans s9
      walk_at "rd"
      refine ⟨v, M, n, m, w, t, ss, rfl, hM.k (sT_of sC), ok, n1, n40, m4, hwl, same_t s9 hSS, hsl, fun GA b1 sA1 hb1 => ?_⟩
      walk_at "rd"
      refine ⟨v, M, n, m, w, t, ss, rfl, hM.k (sT_of (sC.trans sA1)), ok, n1, n40, m4, hwl, hw, same_t (s9.trans sA1) hSS, hsl, fun GB b2 sB1 hb2 => ?_⟩
      have eb : b1 = b2 := by
        cases b1 with
        | true => exact (hb2.mpr (hb1.mp rfl)).symm
        | false =>
          cases b2 with
          | true => exact absurd (hb1.mpr (hb2.mp rfl)) Bool.false_ne_true
          | false => rfl
      subst eb
      refine r_neB ?_
      walk_at "rd"
      refine r_iteN (fun e => absurd rfl e) (fun _ => ?_)
      walk_at "rd"
      exact ⟨_, _, _, _, _, rfl, sC.trans (sA1.trans sB1)⟩
    · obtain ⟨y5, y6, y7, y8, y9, rfl, sG2⟩ := hP
      walk_at "rd"
      exact q _
end

theorem all_mk {l : PySem.W.OpenLaw} {w : World} {K : PySem.W.Frag} {h : Heap} {mg : Str → Option Value} {fa : Addr} (X : K.In h) (G : h.Ns mainGlobals mg) (hfa : mg "law" = some (.ref fa))
    {f0 : Addr} {od0 an0 : Option Addr} {sl0 : Array (Option Value)} {oc0 kV0 dc0 pm0 cd0 ct0 : Value}
    (a0 : PySem.W.nsIn K mainGlobals "_law_cell" = some (some (.ref f0))) (l0 : K.lookup f0 = some ⟨oc0, od0, .func (PySem.W.fnOf "_law_cell" "_law_cell" (defArgs s_l_cell) (defBody s_l_cell) (defScope s_l_cell) .none kV0 dc0 pm0 an0 cd0 ct0), sl0⟩) (c0 : PySem.W.codeIn K cd0 "_law_cell" = true) (k0 : PySem.W.keepIn K (.ref f0) = true)
    {f1 : Addr} {od1 an1 : Option Addr} {sl1 : Array (Option Value)} {oc1 kV1 dc1 pm1 cd1 ct1 : Value}
    (a1 : PySem.W.nsIn K mainGlobals "_law_numbers" = some (some (.ref f1))) (l1 : K.lookup f1 = some ⟨oc1, od1, .func (PySem.W.fnOf "_law_numbers" "_law_numbers" (defArgs s_l_numbers) (defBody s_l_numbers) (defScope s_l_numbers) .none kV1 dc1 pm1 an1 cd1 ct1), sl1⟩) (c1 : PySem.W.codeIn K cd1 "_law_numbers" = true) (k1 : PySem.W.keepIn K (.ref f1) = true)
    {f2 : Addr} {od2 an2 : Option Addr} {sl2 : Array (Option Value)} {oc2 kV2 dc2 pm2 cd2 ct2 : Value}
    (a2 : PySem.W.nsIn K mainGlobals "_law_action" = some (some (.ref f2))) (l2 : K.lookup f2 = some ⟨oc2, od2, .func (PySem.W.fnOf "_law_action" "_law_action" (defArgs s_l_action) (defBody s_l_action) (defScope s_l_action) .none kV2 dc2 pm2 an2 cd2 ct2), sl2⟩) (c2 : PySem.W.codeIn K cd2 "_law_action" = true) (k2 : PySem.W.keepIn K (.ref f2) = true)
    {f3 : Addr} {od3 an3 : Option Addr} {sl3 : Array (Option Value)} {oc3 kV3 dc3 pm3 cd3 ct3 : Value}
    (a3 : PySem.W.nsIn K mainGlobals "_law_machine" = some (some (.ref f3))) (l3 : K.lookup f3 = some ⟨oc3, od3, .func (PySem.W.fnOf "_law_machine" "_law_machine" (defArgs s_l_machine) (defBody s_l_machine) (defScope s_l_machine) .none kV3 dc3 pm3 an3 cd3 ct3), sl3⟩) (c3 : PySem.W.codeIn K cd3 "_law_machine" = true) (k3 : PySem.W.keepIn K (.ref f3) = true)
    {f4 : Addr} {od4 an4 : Option Addr} {sl4 : Array (Option Value)} {oc4 kV4 dc4 pm4 cd4 ct4 : Value}
    (a4 : PySem.W.nsIn K mainGlobals "_law_lead" = some (some (.ref f4))) (l4 : K.lookup f4 = some ⟨oc4, od4, .func (PySem.W.fnOf "_law_lead" "_law_lead" (defArgs s_l_lead) (defBody s_l_lead) (defScope s_l_lead) .none kV4 dc4 pm4 an4 cd4 ct4), sl4⟩) (c4 : PySem.W.codeIn K cd4 "_law_lead" = true) (k4 : PySem.W.keepIn K (.ref f4) = true)
    {f5 : Addr} {od5 an5 : Option Addr} {sl5 : Array (Option Value)} {oc5 kV5 dc5 pm5 cd5 ct5 : Value}
    (a5 : PySem.W.nsIn K mainGlobals "lead" = some (some (.ref f5))) (l5 : K.lookup f5 = some ⟨oc5, od5, .func (PySem.W.fnOf "lead" "lead" (defArgs s_lead) (defBody s_lead) (defScope s_lead) .none kV5 dc5 pm5 an5 cd5 ct5), sl5⟩) (c5 : PySem.W.codeIn K cd5 "lead" = true) (k5 : PySem.W.keepIn K (.ref f5) = true)
    {f6 : Addr} {od6 an6 : Option Addr} {sl6 : Array (Option Value)} {oc6 kV6 dc6 pm6 cd6 ct6 : Value}
    (a6 : PySem.W.nsIn K mainGlobals "letters_of" = some (some (.ref f6))) (l6 : K.lookup f6 = some ⟨oc6, od6, .func (PySem.W.fnOf "letters_of" "letters_of" (defArgs s_letters_of) (defBody s_letters_of) (defScope s_letters_of) .none kV6 dc6 pm6 an6 cd6 ct6), sl6⟩) (c6 : PySem.W.codeIn K cd6 "letters_of" = true) (k6 : PySem.W.keepIn K (.ref f6) = true)
    {f7 : Addr} {od7 an7 : Option Addr} {sl7 : Array (Option Value)} {oc7 kV7 dc7 pm7 cd7 ct7 : Value}
    (a7 : PySem.W.nsIn K mainGlobals "_law_word" = some (some (.ref f7))) (l7 : K.lookup f7 = some ⟨oc7, od7, .func (PySem.W.fnOf "_law_word" "_law_word" (defArgs s_l_word) (defBody s_l_word) (defScope s_l_word) .none kV7 dc7 pm7 an7 cd7 ct7), sl7⟩) (c7 : PySem.W.codeIn K cd7 "_law_word" = true) (k7 : PySem.W.keepIn K (.ref f7) = true)
    {f8 : Addr} {od8 an8 : Option Addr} {sl8 : Array (Option Value)} {oc8 kV8 dc8 pm8 cd8 ct8 : Value}
    (a8 : PySem.W.nsIn K mainGlobals "is_ring" = some (some (.ref f8))) (l8 : K.lookup f8 = some ⟨oc8, od8, .func (PySem.W.fnOf "is_ring" "is_ring" (defArgs s_is_ring) (defBody s_is_ring) (defScope s_is_ring) .none kV8 dc8 pm8 an8 cd8 ct8), sl8⟩) (c8 : PySem.W.codeIn K cd8 "is_ring" = true) (k8 : PySem.W.keepIn K (.ref f8) = true)
    {f9 : Addr} {od9 an9 : Option Addr} {sl9 : Array (Option Value)} {oc9 kV9 dc9 pm9 cd9 ct9 : Value}
    (a9 : PySem.W.nsIn K mainGlobals "_law_around" = some (some (.ref f9))) (l9 : K.lookup f9 = some ⟨oc9, od9, .func (PySem.W.fnOf "_law_around" "_law_around" (defArgs s_l_around) (defBody s_l_around) (defScope s_l_around) .none kV9 dc9 pm9 an9 cd9 ct9), sl9⟩) (c9 : PySem.W.codeIn K cd9 "_law_around" = true) (k9 : PySem.W.keepIn K (.ref f9) = true)
    {f10 : Addr} {od10 an10 : Option Addr} {sl10 : Array (Option Value)} {oc10 kV10 dc10 pm10 cd10 ct10 : Value}
    (a10 : PySem.W.nsIn K mainGlobals "_law_is_right" = some (some (.ref f10))) (l10 : K.lookup f10 = some ⟨oc10, od10, .func (PySem.W.fnOf "_law_is_right" "_law_is_right" (defArgs s_l_is_right) (defBody s_l_is_right) (defScope s_l_is_right) .none kV10 dc10 pm10 an10 cd10 ct10), sl10⟩) (c10 : PySem.W.codeIn K cd10 "_law_is_right" = true) (k10 : PySem.W.keepIn K (.ref f10) = true)
    {f11 : Addr} {od11 an11 : Option Addr} {sl11 : Array (Option Value)} {oc11 kV11 dc11 pm11 cd11 ct11 : Value}
    (a11 : PySem.W.nsIn K mainGlobals "_law_spoilt" = some (some (.ref f11))) (l11 : K.lookup f11 = some ⟨oc11, od11, .func (PySem.W.fnOf "_law_spoilt" "_law_spoilt" (defArgs s_l_spoilt) (defBody s_l_spoilt) (defScope s_l_spoilt) .none kV11 dc11 pm11 an11 cd11 ct11), sl11⟩) (c11 : PySem.W.codeIn K cd11 "_law_spoilt" = true) (k11 : PySem.W.keepIn K (.ref f11) = true)
    {f12 : Addr} {od12 an12 : Option Addr} {sl12 : Array (Option Value)} {oc12 kV12 dc12 pm12 cd12 ct12 : Value}
    (a12 : PySem.W.nsIn K mainGlobals "law" = some (some (.ref f12))) (l12 : K.lookup f12 = some ⟨oc12, od12, .func (PySem.W.fnOf "law" "law" (defArgs s_law) (defBody s_law) (defScope s_law) .none kV12 dc12 pm12 an12 cd12 ct12), sl12⟩) (c12 : PySem.W.codeIn K cd12 "law" = true) (k12 : PySem.W.keepIn K (.ref f12) = true)
    (z_any : PySem.W.nsIn K mainGlobals "any" = some none)
    (z_bool : PySem.W.nsIn K mainGlobals "bool" = some none)
    (z_int : PySem.W.nsIn K mainGlobals "int" = some none)
    (z_isinstance : PySem.W.nsIn K mainGlobals "isinstance" = some none)
    (z_len : PySem.W.nsIn K mainGlobals "len" = some none)
    (z_list : PySem.W.nsIn K mainGlobals "list" = some none)
    (z_range : PySem.W.nsIn K mainGlobals "range" = some none)
    (z_set : PySem.W.nsIn K mainGlobals "set" = some none)
    (z_sorted : PySem.W.nsIn K mainGlobals "sorted" = some none)
    (z_tuple : PySem.W.nsIn K mainGlobals "tuple" = some none)
    {t_LETTERS : Tok} (c_LETTERS : PySem.W.nsIn K mainGlobals "LETTERS" = some (some (Value.str "abcd" t_LETTERS)))
    : ∃ fd : FuncData, (∀ (s : Shared) (v : Value), BindsTo s fd ⟨[v], []⟩ [("script", v)]) ∧ ∀ base : Heap, K.In base → base.Ns mainGlobals mg → FnOk l.prog w K mg base CX0 3 fa fd ["script"] (sp_law K) := by
  have e := hfa.symm.trans (PySem.W.mg_of X G a12)
  cases e
  have F0 := fun_mk (st := s_l_cell) l0 c0 k0
  have b0 := F0.binds (ps := ["script", "k"]) fun _ _ _ _ _ _ us hl => match us, hl with | [_, _], _ => rfl
  have F1 := fun_mk (st := s_l_numbers) l1 c1 k1
  have b1 := F1.binds (ps := ["cell", "count"]) fun _ _ _ _ _ _ us hl => match us, hl with | [_, _], _ => rfl
  have F2 := fun_mk (st := s_l_action) l2 c2 k2
  have b2 := F2.binds (ps := ["numbers", "count"]) fun _ _ _ _ _ _ us hl => match us, hl with | [_, _], _ => rfl
  have F3 := fun_mk (st := s_l_machine) l3 c3 k3
  have b3 := F3.binds (ps := ["cell", "count", "letters"]) fun _ _ _ _ _ _ us hl => match us, hl with | [_, _, _], _ => rfl
  have F4 := fun_mk (st := s_l_lead) l4 c4 k4
  have b4 := F4.binds (ps := ["machine", "state", "word"]) fun _ _ _ _ _ _ us hl => match us, hl with | [_, _, _], _ => rfl
  have F5 := fun_mk (st := s_lead) l5 c5 k5
  have b5 := F5.binds (ps := ["machine", "state", "word"]) fun _ _ _ _ _ _ us hl => match us, hl with | [_, _, _], _ => rfl
  have F6 := fun_mk (st := s_letters_of) l6 c6 k6
  have b6 := F6.binds (ps := ["machine"]) fun _ _ _ _ _ _ us hl => match us, hl with | [_], _ => rfl
  have F7 := fun_mk (st := s_l_word) l7 c7 k7
  have b7 := F7.binds (ps := ["cell", "letters"]) fun _ _ _ _ _ _ us hl => match us, hl with | [_, _], _ => rfl
  have F8 := fun_mk (st := s_is_ring) l8 c8 k8
  have b8 := F8.binds (ps := ["machine", "word", "states"]) fun _ _ _ _ _ _ us hl => match us, hl with | [_, _, _], _ => rfl
  have F9 := fun_mk (st := s_l_around) l9 c9 k9
  have b9 := F9.binds (ps := ["machine", "state", "word"]) fun _ _ _ _ _ _ us hl => match us, hl with | [_, _, _], _ => rfl
  have F10 := fun_mk (st := s_l_is_right) l10 c10 k10
  have b10 := F10.binds (ps := ["machine", "word", "states"]) fun _ _ _ _ _ _ us hl => match us, hl with | [_, _, _], _ => rfl
  have F11 := fun_mk (st := s_l_spoilt) l11 c11 k11
  have b11 := F11.binds (ps := ["states", "numbers", "count"]) fun _ _ _ _ _ _ us hl => match us, hl with | [_, _, _], _ => rfl
  have F12 := fun_mk (st := s_law) l12 c12 k12
  have b12 := F12.binds (ps := ["script"]) fun _ _ _ _ _ _ us hl => match us, hl with | [_], _ => rfl
  have T : Txt K mg ⟨f0, PySem.W.fnOf "_law_cell" "_law_cell" (defArgs s_l_cell) (defBody s_l_cell) (defScope s_l_cell) .none kV0 dc0 pm0 an0 cd0 ct0, f1, PySem.W.fnOf "_law_numbers" "_law_numbers" (defArgs s_l_numbers) (defBody s_l_numbers) (defScope s_l_numbers) .none kV1 dc1 pm1 an1 cd1 ct1, f2, PySem.W.fnOf "_law_action" "_law_action" (defArgs s_l_action) (defBody s_l_action) (defScope s_l_action) .none kV2 dc2 pm2 an2 cd2 ct2, f3, PySem.W.fnOf "_law_machine" "_law_machine" (defArgs s_l_machine) (defBody s_l_machine) (defScope s_l_machine) .none kV3 dc3 pm3 an3 cd3 ct3, f4, PySem.W.fnOf "_law_lead" "_law_lead" (defArgs s_l_lead) (defBody s_l_lead) (defScope s_l_lead) .none kV4 dc4 pm4 an4 cd4 ct4, f5, PySem.W.fnOf "lead" "lead" (defArgs s_lead) (defBody s_lead) (defScope s_lead) .none kV5 dc5 pm5 an5 cd5 ct5, f6, PySem.W.fnOf "letters_of" "letters_of" (defArgs s_letters_of) (defBody s_letters_of) (defScope s_letters_of) .none kV6 dc6 pm6 an6 cd6 ct6, f7, PySem.W.fnOf "_law_word" "_law_word" (defArgs s_l_word) (defBody s_l_word) (defScope s_l_word) .none kV7 dc7 pm7 an7 cd7 ct7, f8, PySem.W.fnOf "is_ring" "is_ring" (defArgs s_is_ring) (defBody s_is_ring) (defScope s_is_ring) .none kV8 dc8 pm8 an8 cd8 ct8, f9, PySem.W.fnOf "_law_around" "_law_around" (defArgs s_l_around) (defBody s_l_around) (defScope s_l_around) .none kV9 dc9 pm9 an9 cd9 ct9, f10, PySem.W.fnOf "_law_is_right" "_law_is_right" (defArgs s_l_is_right) (defBody s_l_is_right) (defScope s_l_is_right) .none kV10 dc10 pm10 an10 cd10 ct10, f11, PySem.W.fnOf "_law_spoilt" "_law_spoilt" (defArgs s_l_spoilt) (defBody s_l_spoilt) (defScope s_l_spoilt) .none kV11 dc11 pm11 an11 cd11 ct11, fa, PySem.W.fnOf "law" "law" (defArgs s_law) (defBody s_law) (defScope s_law) .none kV12 dc12 pm12 an12 cd12 ct12⟩ := ⟨F0, b0, PySem.W.mg_of X G a0, F1, b1, PySem.W.mg_of X G a1, F2, b2, PySem.W.mg_of X G a2, F3, b3, PySem.W.mg_of X G a3, F4, b4, PySem.W.mg_of X G a4, F5, b5, PySem.W.mg_of X G a5, F6, b6, PySem.W.mg_of X G a6, F7, b7, PySem.W.mg_of X G a7, F8, b8, PySem.W.mg_of X G a8, F9, b9, PySem.W.mg_of X G a9, F10, b10, PySem.W.mg_of X G a10, F11, b11, PySem.W.mg_of X G a11, F12, b12, PySem.W.mg_of X G a12, PySem.W.mg_none_of X G z_any, PySem.W.mg_none_of X G z_bool, PySem.W.mg_none_of X G z_int, PySem.W.mg_none_of X G z_isinstance, PySem.W.mg_none_of X G z_len, PySem.W.mg_none_of X G z_list, PySem.W.mg_none_of X G z_range, PySem.W.mg_none_of X G z_set, PySem.W.mg_none_of X G z_sorted, PySem.W.mg_none_of X G z_tuple, ⟨_, PySem.W.mg_of X G c_LETTERS⟩⟩
  exact ⟨_, fun s v => .of_eq rfl, fun base _ _ => ok_law T⟩
end L21
open PySem PySem.W PyProof.Rows
set_option maxHeartbeats 0 in
theorem PySem.Challenge.cw_turnsandthrows_k21_is_ring_holds : PySem.Challenge.rw_turnsandthrows_k21_is_ring.Holds := by
  w_on; o_law; k_head; (case hw => w_witness2)
  k_fill
  refine L2.walk_of (l := PySem.Challenge.rw_turnsandthrows_k21_is_ring) (n := 63) (k := 3) (x := "script") (CX := fun _ => L2.CX0) (sp := fun w => L21.sp_law _) rfl (by decide) rfl ⟨rfl, by decide, by decide⟩ (fun w h Y => PySem.W.kIn_of Y) ?F (fun _ _ a ns hl _ hS => ⟨a, ns, rfl, hS, hl, fun _ => rfl⟩) (fun _ _ _ _ _ h => h)
  case F =>
    intro w mg fa h KX G hmg
    refine' L21.all_mk KX G hmg ?a0 ?l0 ?c0 ?k0 ?a1 ?l1 ?c1 ?k1 ?a2 ?l2 ?c2 ?k2 ?a3 ?l3 ?c3 ?k3 ?a4 ?l4 ?c4 ?k4 ?a5 ?l5 ?c5 ?k5 ?a6 ?l6 ?c6 ?k6 ?a7 ?l7 ?c7 ?k7 ?a8 ?l8 ?c8 ?k8 ?a9 ?l9 ?c9 ?k9 ?a10 ?l10 ?c10 ?k10 ?a11 ?l11 ?c11 ?k11 ?a12 ?l12 ?c12 ?k12 ?z_any ?z_bool ?z_int ?z_isinstance ?z_len ?z_list ?z_range ?z_set ?z_sorted ?z_tuple ?c_LETTERS
    (case a0 => k_is); (case l0 => k_is); (case c0 => k_is); (case k0 => k_is); (case a1 => k_is); (case l1 => k_is); (case c1 => k_is); (case k1 => k_is); (case a2 => k_is); (case l2 => k_is); (case c2 => k_is); (case k2 => k_is); (case a3 => k_is); (case l3 => k_is); (case c3 => k_is); (case k3 => k_is); (case a4 => k_is); (case l4 => k_is); (case c4 => k_is); (case k4 => k_is); (case a5 => k_is); (case l5 => k_is); (case c5 => k_is); (case k5 => k_is); (case a6 => k_is); (case l6 => k_is); (case c6 => k_is); (case k6 => k_is); (case a7 => k_is); (case l7 => k_is); (case c7 => k_is); (case k7 => k_is); (case a8 => k_is); (case l8 => k_is); (case c8 => k_is); (case k8 => k_is); (case a9 => k_is); (case l9 => k_is); (case c9 => k_is); (case k9 => k_is); (case a10 => k_is); (case l10 => k_is); (case c10 => k_is); (case k10 => k_is); (case a11 => k_is); (case l11 => k_is); (case c11 => k_is); (case k11 => k_is); (case a12 => k_is); (case l12 => k_is); (case c12 => k_is); (case k12 => k_is); (case z_any => k_is); (case z_bool => k_is); (case z_int => k_is); (case z_isinstance => k_is); (case z_len => k_is); (case z_list => k_is); (case z_range => k_is); (case z_set => k_is); (case z_sorted => k_is); (case z_tuple => k_is); (case c_LETTERS => k_is)

