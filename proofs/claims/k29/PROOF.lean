import PyProof.Rows.All
import Wide.All
import OpenK.AllK
import Wide.FinOn
import HandS.ForMost
import HandS.IsInst
import HandS.Style
import HandS.Flow
import HandS.Codes
import HandS.Wide
import HandS.Walk
import HandS.Deep
import HandS.DictComp
import HandS.DictTup
import HandS.Small
import HandS.RaiseMore
import HandS.Defaults
import HandS.MakeKwOnly
import HandS.Zip
import PyProof.Draws
import KE.GoesMore
import HandS.TupAny
import HandS.TupMul
import HandS.TupLe
import HandS.TupLen
import HandS.TryOnly
import HandS.WordsExc
import PySem.Challenge.RW_cutofftills_k29_steps_told
set_option Elab.async false
set_option linter.all false
set_option maxRecDepth 100000
set_option maxHeartbeats 4000000
namespace Kx
open PySem PySem.Spec L2

/-! ### one reading at a time -/
section
variable {σ : St} {H : Hp} {v x y : V} {Q : VK} {i : Nat} {ta tb tc te : TE} {t u : TT} {D : Ends} {s1 s2 : TS}
theorem q_var (h : ∃ v, σ[i]? = some (some v) ∧ Q v H) : tVar i σ H Q := h
theorem q_c (q : Q v H) : tC v σ H Q := q
theorem q_op {r : R2} (h : ta σ H fun x H1 => tb σ H1 fun y H2 => r x y H2 Q) : tOp r ta tb σ H Q := h
theorem q_un {r : V → Hp → VK → Prop} (h : ta σ H fun x H1 => r x H1 Q) : tUn r ta σ H Q := h
theorem q_cb {r : List V → Hp → VK → Prop} {tr : TA} (h : tr σ H fun xs H1 => r xs H1 Q) : tCB r tr σ H Q := h
theorem q_test {Qb : Bool → Hp → Prop} (h : te σ H fun x H1 => ∃ k, x = .bl k ∧ Qb k H1) : tTest te σ H Qb := h
theorem q_B {Qb : Bool → Hp → Prop} (h : te σ H fun x H1 => ∃ k, x = .bl k ∧ Qb k H1) : tB te σ H Qb := h
theorem q_bl {b : Bool} {Qb : Bool → Hp → Prop} (q : Qb b H) : ∃ k, V.bl b = .bl k ∧ Qb k H := ⟨b, rfl, q⟩
theorem q_blI {b : Bool} {A : Bool → Prop} (q : A b) : ∃ k, V.bl b = .bl k ∧ A k := ⟨b, rfl, q⟩
theorem q_and {Qb : Bool → Hp → Prop} (h : t σ H fun c H1 => if c = true then u σ H1 Qb else Qb false H1) : tAnd t u σ H Qb := h
theorem q_or {Qb : Bool → Hp → Prop} (h : t σ H fun c H1 => if c = true then Qb true H1 else u σ H1 Qb) : tOr t u σ H Qb := h
theorem q_not {Qb : Bool → Hp → Prop} (h : t σ H fun c H1 => Qb (!c) H1) : tNot t σ H Qb := h
theorem q_andV (h : ta σ H fun x H1 => ∃ c, x = .bl c ∧ if c = true then tb σ H1 Q else Q (.bl false) H1) : tAndV ta tb σ H Q := h
theorem q_orV (h : ta σ H fun x H1 => ∃ c, x = .bl c ∧ if c = true then Q (.bl true) H1 else tb σ H1 Q) : tOrV ta tb σ H Q := h
theorem q_notV (h : ta σ H fun x H1 => ∃ c, x = .bl c ∧ Q (.bl (!c)) H1) : tNotV ta σ H Q := h
theorem q_if (h : t σ H fun c H1 => if c = true then ta σ H1 Q else tb σ H1 Q) : tIf t ta tb σ H Q := h
theorem q_chain {r r' : R2} (h : ta σ H fun x H1 => tb σ H1 fun y H2 => r x y H2 fun z H3 => ∃ k, z = .bl k ∧ (if k = true then tc σ H3 fun w' H4 => r' y w' H4 Q else Q (.bl false) H3)) : tChain r r' ta tb tc σ H Q := h
theorem q_call {sp : Sp} {dvs : List V} {E : XK} {tr : TA} (h : tr σ H fun vs H1 => sp (vs ++ dvs) H1 Q E) : tCall sp dvs E tr σ H Q := h
theorem q_nil {Qa : List V → Hp → Prop} (q : Qa [] H) : tNil σ H Qa := q
theorem q_cons {tr : TA} {Qa : List V → Hp → Prop} (h : te σ H fun x H1 => tr σ H1 fun xs H2 => Qa (x :: xs) H2) : tCons te tr σ H Qa := h
theorem q_tup {tr : TA} (h : tr σ H fun xs H1 => xs.length ≤ sizeLine ∧ ∀ p, H1 p = none → Q (.ref p) (upd H1 p (.tup xs))) : tTup tr σ H Q := h
theorem q_lst {tr : TA} (h : tr σ H fun xs H1 => xs.length ≤ sizeLine ∧ ∀ p, H1 p = none → Q (.ref p) (upd H1 p (.lst xs))) : tLst tr σ H Q := h
theorem q_sl {r : V → Option Int → Option Int → Hp → VK → Prop} {tl th : TO} (h : te σ H fun x H1 => tl σ H1 fun l H2 => th σ H2 fun u H3 => r x l u H3 Q) : tSl r te tl th σ H Q := h
theorem q_noPart {Qo : Option Int → Hp → Prop} (q : Qo none H) : tNoPart σ H Qo := q
theorem q_part {Qo : Option Int → Hp → Prop} (h : te σ H fun x H1 => ∃ i, x = .int i ∧ Qo (some i) H1) : tPart te σ H Qo := h
theorem q_int {i : Int} {A : Int → Prop} (q : A i) : ∃ k, V.int i = .int k ∧ A k := ⟨i, rfl, q⟩
theorem q_yes {Qb : Bool → Hp → Prop} (q : Qb true H) : tYes σ H Qb := q
theorem q_seq (h : s1 { D with nx := s2 D } σ H) : tSeq s1 s2 D σ H := h
theorem q_next (h : D.nx σ H) : tNext D σ H := h
theorem q_asgN (h : te σ H fun x H1 => D.nx (σ.set i (some x)) H1) : tAsg te (gName i) D σ H := h
theorem q_asg {g : TG} (h : te σ H fun x H1 => g x σ H1 D.nx) : tAsg te g D σ H := h
theorem q_ret (h : te σ H D.rt) : tRet te D σ H := h
theorem q_drop (h : te σ H fun _ H1 => D.nx σ H1) : tDrop te D σ H := h
theorem q_ifS {c : TT} (h : c σ H fun b H1 => if b = true then s1 D σ H1 else s2 D σ H1) : tIfS c s1 s2 D σ H := h
theorem q_par {j : Nat} {tr : TA} (h : tr σ H fun vs H1 => ∃ v w, vs = [v, w] ∧ D.nx ((σ.set i (some v)).set j (some w)) H1) : tPar i j tr D σ H := h
theorem q_two {a b : V} {A : V → V → Prop} (q : A a b) : ∃ v w, [a, b] = [v, w] ∧ A v w := ⟨a, b, rfl, q⟩
theorem q_I0 {g : Int → Int → V} {i j : Int} (q : Q (g i j) H) : rI0 g (.int i) (.int j) H Q := ⟨i, j, rfl, rfl, q⟩
theorem q_I {C : Int → Int → Prop} {g : Int → Int → V} {i j : Int} (hc : C i j) (q : Q (g i j) H) : rI C g (.int i) (.int j) H Q := ⟨i, j, rfl, rfl, hc, q⟩
theorem q_U {g : Int → V} {i : Int} (q : Q (g i) H) : rU g (.int i) H Q := ⟨i, rfl, q⟩
theorem q_eq (h : scal x y = true) (q : Q (.bl (decide (x = y))) H) : rEq x y H Q := ⟨h, q⟩
theorem q_ne (h : scal x y = true) (q : Q (.bl (!decide (x = y))) H) : rNe x y H Q := ⟨h, q⟩
theorem q_isB {a b : Bool} (q : Q (.bl (decide (a = b))) H) : rIsB (.bl a) (.bl b) H Q := ⟨a, b, rfl, rfl, q⟩
theorem q_notB {a b : Bool} (q : Q (.bl (!decide (a = b))) H) : rNotB (.bl a) (.bl b) H Q := ⟨a, b, rfl, rfl, q⟩
end
/-! ### tests -/
theorem i_dec {p A B : Prop} [Decidable p] (h1 : p → A) (h2 : ¬ p → B) : if decide p = true then A else B := by
  by_cases h : p
  · rw [if_pos (decide_eq_true h)]; exact h1 h
  · rw [if_neg (by rw [decide_eq_false h]; exact Bool.false_ne_true)]; exact h2 h
theorem i_ndec {p A B : Prop} [Decidable p] (h1 : ¬ p → A) (h2 : p → B) : if (!decide p) = true then A else B := by
  by_cases h : p
  · rw [if_neg (by rw [decide_eq_true h]; exact Bool.false_ne_true)]; exact h2 h
  · rw [if_pos (by rw [decide_eq_false h]; rfl)]; exact h1 h
theorem i_b {b : Bool} {A B : Prop} (h1 : b = true → A) (h2 : b = false → B) : if b = true then A else B := by
  cases b
  · exact iteF (h2 rfl)
  · exact iteT (h1 rfl)
theorem i_yes {b : Bool} {A B : Prop} (h : b = true) (q : A) : if b = true then A else B := by rw [if_pos h]; exact q
theorem i_no {b : Bool} {A B : Prop} (h : b = false) (q : B) : if b = true then A else B := by rw [if_neg (by rw [h]; exact Bool.false_ne_true)]; exact q
theorem i_yesD {p A B : Prop} [Decidable p] (h : p) (q : A) : if decide p = true then A else B := i_yes (decide_eq_true h) q
theorem i_noD {p A B : Prop} [Decidable p] (h : ¬ p) (q : B) : if decide p = true then A else B := i_no (decide_eq_false h) q

/-! ### values of any kind -/
/-- what is looked at by isinstance: the kinds that laws hand in -/
inductive Any (H : Hp) : V → Prop
  | non : Any H .non
  | bl (b : Bool) : Any H (.bl b)
  | int (i : Int) : Any H (.int i)
  | str (s : Str) : Any H (.str s)
  | lst {a : Addr} {xs : List V} (h : H a = some (.lst xs)) : Any H (.ref a)
  | tup {a : Addr} {xs : List V} (h : H a = some (.tup xs)) : Any H (.ref a)
  | dK {a : Addr} {kvs : List (Key × V)} (h : H a = some (.dK kvs)) : Any H (.ref a)
/-- the name of its type -/
def kindOf (H : Hp) : V → String
  | .non => "NoneType"
  | .bl _ => "bool"
  | .int _ => "int"
  | .str _ => "str"
  | .ref a => match H a with
    | some (.lst _) => "list"
    | some (.tup _) => "tuple"
    | some (.dK _) => "dict"
    | _ => "?"
  | _ => "?"
theorem Any.ty {K : PySem.W.Frag} {H : Hp} {x : V} (h : Any H x) : TyX K H x (.type (kindOf H x)) := by
  cases h with
  | non => exact .base .non
  | bl b => exact .base (.bl b)
  | int i => exact .base (.int i)
  | str s => exact .base (.str s)
  | lst h => simp only [kindOf, h]; exact .base (.lst h)
  | tup h => simp only [kindOf, h]; exact .base (.tup h)
  | dK h => simp only [kindOf, h]; exact .base (.dK h)
theorem Any.mem {H : Hp} {x : V} (h : Any H x) : kindOf H x ∈ ["NoneType", "bool", "int", "str", "list", "tuple", "dict"] := by
  cases h with
  | non => simp [kindOf]
  | bl b => simp [kindOf]
  | int i => simp [kindOf]
  | str s => simp [kindOf]
  | lst h => simp [kindOf, h]
  | tup h => simp [kindOf, h]
  | dK h => simp [kindOf, h]
theorem kit_int : ∀ a ∈ ["NoneType", "bool", "int", "str", "list", "tuple", "dict"], kitB a "int" = some (a == "int" || a == "bool") := by decide +kernel
theorem kit_bool : ∀ a ∈ ["NoneType", "bool", "int", "str", "list", "tuple", "dict"], kitB a "bool" = some (a == "bool") := by decide +kernel
theorem kit_str : ∀ a ∈ ["NoneType", "bool", "int", "str", "list", "tuple", "dict"], kitB a "str" = some (a == "str") := by decide +kernel
theorem kit_tuple : ∀ a ∈ ["NoneType", "bool", "int", "str", "list", "tuple", "dict"], kitB a "tuple" = some (a == "tuple") := by decide +kernel
theorem kit_list : ∀ a ∈ ["NoneType", "bool", "int", "str", "list", "tuple", "dict"], kitB a "list" = some (a == "list") := by decide +kernel
section
variable {K : PySem.W.Frag} {H : Hp} {x : V} {Q : VK}
theorem q_isInt (h : Any H x) (q : Q (.bl (kindOf H x == "int" || kindOf H x == "bool")) H) : rIsi K [x, .ty "int"] H Q := ⟨x, .ty "int", _, _, _, rfl, .ty "int", h.ty, kit_ty (kit_int _ h.mem), q⟩
theorem q_isBool (h : Any H x) (q : Q (.bl (kindOf H x == "bool")) H) : rIsi K [x, .ty "bool"] H Q := ⟨x, .ty "bool", _, _, _, rfl, .ty "bool", h.ty, kit_ty (kit_bool _ h.mem), q⟩
theorem q_isStr (h : Any H x) (q : Q (.bl (kindOf H x == "str")) H) : rIsi K [x, .ty "str"] H Q := ⟨x, .ty "str", _, _, _, rfl, .ty "str", h.ty, kit_ty (kit_str _ h.mem), q⟩
theorem q_isTuple (h : Any H x) (q : Q (.bl (kindOf H x == "tuple")) H) : rIsi K [x, .ty "tuple"] H Q := ⟨x, .ty "tuple", _, _, _, rfl, .ty "tuple", h.ty, kit_ty (kit_tuple _ h.mem), q⟩
end
def isInt : V → Bool
  | .int _ => true
  | _ => false
def isIntTo (t : Int) : V → Bool
  | .int i => decide (0 ≤ i) && decide (i ≤ t)
  | _ => false
def isWordV (w : Str) (x : V) : Bool := decide (x = .str w)
/-- one to eight letters from a to z -/
def isNameS (s : Str) : Bool := decide (1 ≤ s.length) && decide (s.length ≤ 8) && s.cps.toList.all fun c => decide (97 ≤ c) && decide (c ≤ 122)
def isNameV : V → Bool
  | .str s => isNameS s
  | _ => false
theorem Any.refl_nt {H : Hp} {x : V} (h : Any H x) : (∃ s, x = .str s) ∨ (∀ s, x ≠ .str s) := by
  cases h <;> first | exact .inl ⟨_, rfl⟩ | exact .inr (fun _ e => nomatch e)

theorem isInt_eq {H : Hp} {x : V} (h : Any H x) : isInt x = ((kindOf H x == "int" || kindOf H x == "bool") && !(kindOf H x == "bool")) := by
  cases h with
  | non => simp [isInt, kindOf]
  | bl b => simp [isInt, kindOf]
  | int i => simp [isInt, kindOf]
  | str s => simp [isInt, kindOf]
  | lst h => simp [isInt, kindOf, h]
  | tup h => simp [isInt, kindOf, h]
  | dK h => simp [isInt, kindOf, h]
theorem isInt_true {x : V} (h : isInt x = true) : ∃ i, x = .int i := by
  cases x <;> first | exact ⟨_, rfl⟩ | (exact nomatch h)
theorem isIntTo_not {x : V} {t : Int} (h : isInt x = false) : isIntTo t x = false := by
  cases x <;> first | rfl | (exact nomatch h)
theorem kind_str {H : Hp} {x : V} (h : Any H x) : (kindOf H x == "str") = true → ∃ s, x = .str s := by
  cases h with
  | str s => exact fun _ => ⟨s, rfl⟩
  | non => exact fun h => absurd h (by simp [kindOf])
  | bl b => exact fun h => absurd h (by simp [kindOf])
  | int i => exact fun h => absurd h (by simp [kindOf])
  | lst h => simp [kindOf, h]
  | tup h => simp [kindOf, h]
  | dK h => simp [kindOf, h]
theorem kind_nstr {H : Hp} {x : V} : (kindOf H x == "str") = false → ∀ s, x ≠ .str s := by
  rintro h s rfl
  exact absurd h (by simp [kindOf])
theorem kind_tup {H : Hp} {x : V} (h : Any H x) : (kindOf H x == "tuple") = true → ∃ a xs, x = .ref a ∧ H a = some (.tup xs) := by
  cases h with
  | tup h => exact fun _ => ⟨_, _, rfl, h⟩
  | str s => exact fun h => absurd h (by simp [kindOf])
  | non => exact fun h => absurd h (by simp [kindOf])
  | bl b => exact fun h => absurd h (by simp [kindOf])
  | int i => exact fun h => absurd h (by simp [kindOf])
  | lst h => simp [kindOf, h]
  | dK h => simp [kindOf, h]
theorem nword_of {w : Str} {x : V} (h : ∀ s, x ≠ .str s) : isWordV w x = false := decide_eq_false (h w)
theorem nname_of {x : V} (h : ∀ s, x ≠ .str s) : isNameV x = false := by
  cases x <;> first | rfl | (exact absurd rfl (h _))

/-! ### comprehensions whose elements store nothing -/
theorem wipe1 (σ : L2.St) (j : Nat) (x : Option V) : wipe ((wipe σ [j]).set j x) [j] = wipe σ [j] := by
  show (((σ.set j none).set j x).set j none) = σ.set j none
  rw [List.set_set, List.set_set]
theorem lc_map {J : It} {n : Nat} {G : Hp → Prop} {Y : Nat → Hp → V → Hp → Prop} (w : Walk J n G Y) {j : Nat} {te : TE} {σ : L2.St} {H1 : Hp} {D : Addr} {Qd : Hp → Prop} (xs : List V) (f : V → V) (hn : n = xs.length) (hN : n < sizeLine)
    (hG : ∀ o, G (upd H1 D o)) (hY : ∀ i H x H', Y i H x H' → H' = H ∧ xs[i]? = some x)
    (he : ∀ (i : Nat) (x : V) (o : HO) (Q : VK), xs[i]? = some x → Q (f x) (upd H1 D o) → te ((wipe σ [j]).set j (some x)) (upd H1 D o) Q) (hd : Qd (upd H1 D (.lst (xs.map f)))) :
    ∃ W : Nat → Nat → Hp → Prop, (∃ m, W 0 m (upd H1 D (.lst []))) ∧ ∀ i m H, W i m H →
      (J.stop i H ∧ Qd H) ∨ (J.go i H ∧ ∃ Nx : Hp → Prop, (∀ H', Nx H' → ∃ m', m' < m ∧ W (i + 1) m' H') ∧ ∀ x H', J.yld i H x H' → gName j x (wipe σ [j]) H' fun σ2 H2 => wipe σ2 [j] = wipe σ [j] ∧ tYes σ2 H2 fun b H3 =>
        if b = true then te σ2 H3 fun y H4 => ∃ acc, H4 D = some (.lst acc) ∧ acc.length < sizeLine ∧ Nx (upd H4 D (.lst (acc ++ [y]))) else Nx H3) := by
  refine lc_it w (fun i H => H = upd H1 D (.lst ((xs.take i).map f))) rfl (fun i H _ e => by rw [e]; exact hG _) (fun i x H H' hi e y => ?_) (fun H e => by rw [e, hn, List.take_length]; exact hd)
  obtain ⟨e2, hx⟩ := hY i H x H' y
  subst e2
  subst e
  refine ⟨wipe1 σ j (some x), ?_⟩
  refine q_yes ?_
  refine iteT ?_
  have hlt : i < xs.length := by omega
  refine he i x _ _ hx ⟨(xs.take i).map f, upd_same, ?_, ?_⟩
  · rw [List.length_map, List.length_take]; omega
  · rw [upd_upd, List.take_add_one, hx, Option.toList_some, List.map_append]; rfl

/-! ### texts -/
theorem tl_len (s : Str) : s.cps.toList.length = s.length := by rw [Array.length_toList]; rfl
theorem str_ext {s z : Str} (h : s.cps.toList = z.cps.toList) : s = z := by
  cases s; cases z
  simp only [Str.mk.injEq]
  exact Array.toList_inj.mp h
theorem tl_app (a b : Str) : (a ++ b).cps.toList = a.cps.toList ++ b.cps.toList := by
  show (a.cps ++ b.cps).toList = _
  rw [Array.toList_append]
theorem len_app (a b : Str) : (a ++ b).length = a.length + b.length := by rw [← tl_len, tl_app, List.length_append, tl_len, tl_len]

/-! ### lists, tuples, texts: length, items -/
section
variable {K : PySem.W.Frag} {H : Hp} {a : Addr} {xs : List V} {v : V} {i : Int} {z : Str} {Q : VK}
theorem q_lenL {A : Nat → Prop} (h : SqL K H a xs) (q : A xs.length) : ∃ x n, [V.ref a] = [x] ∧ LenV K x H n ∧ A n := ⟨_, _, rfl, .inl ⟨_, h, rfl⟩, q⟩
theorem q_lenT {A : Nat → Prop} (h : SqT K H a xs) (q : A xs.length) : ∃ x n, [V.ref a] = [x] ∧ LenV K x H n ∧ A n := ⟨_, _, rfl, .inr ⟨_, h, rfl⟩, q⟩
theorem q_lenS {A : Nat → Prop} (h : z.length ≤ sizeLine) (q : A z.length) : ∃ x n, [V.str z] = [x] ∧ LenV K x H n ∧ A n := ⟨_, _, rfl, ⟨h, rfl⟩, q⟩
theorem q_ixL (h : SqL K H a xs) (e : atI xs i = some v) (q : Q v H) : rIxL K (.ref a) (.int i) H Q := ⟨_, _, _, _, rfl, rfl, h, e, q⟩
theorem q_ixT (h : SqT K H a xs) (e : atI xs i = some v) (q : Q v H) : rIxT K (.ref a) (.int i) H Q := ⟨_, _, _, _, rfl, rfl, h, e, q⟩
theorem q_ixS {c : Nat} (h : z.length ≤ sizeLine) (e : atI z.cps.toList i = some c) (q : Q (.str ⟨#[c]⟩) H) : rIxS (.str z) (.int i) H Q := ⟨_, _, _, rfl, rfl, h, e, q⟩
theorem q_int1 {A : Int → Prop} {B : Bool → Prop} (q : A i) : (∃ j, [V.int i] = [.int j] ∧ A j) ∨ ∃ k, [V.int i] = [.bl k] ∧ B k := .inl ⟨_, rfl, q⟩
theorem q_int1b {b : Bool} {A : Int → Prop} {B : Bool → Prop} (q : B b) : (∃ j, [V.bl b] = [.int j] ∧ A j) ∨ ∃ k, [V.bl b] = [.bl k] ∧ B k := .inr ⟨_, rfl, q⟩
theorem q_max2 {j : Int} {A : Int → Int → Prop} (q : A i j) : ∃ m n, [V.int i, V.int j] = [.int m, .int n] ∧ A m n := ⟨_, _, rfl, q⟩
theorem q_gSub {to ti : TE} {t : TSet} {σ : L2.St} {R : L2.St → Hp → Prop} (h : to σ H fun o H1 => ti σ H1 fun i H2 => t o i v H2 fun H3 => R σ H3) : gSub to ti t v σ H R := h
theorem q_setL {j : Nat} {R : Hp → Prop} (h : H a = some (.lst xs)) (e : ixN xs.length i = some j) (q : R (upd H a (.lst (xs.set j v)))) : rSetL (.ref a) (.int i) v H R := ⟨_, _, _, _, rfl, rfl, h, e, q⟩
end
theorem atI_of {α : Type} {xs : List α} {i : Int} {x : α} (h0 : 0 ≤ i) (h : xs[i.toNat]? = some x) : atI xs i = some x := by
  have e : i = ((i.toNat : Nat) : Int) := by omega
  rw [e]
  exact atI_nat h

/-! ### the law's pool of draws -/
structure Pool (H : Hp) (p : Addr) : Prop where
  ex : ∃ a b : Int, H p = some (.lst [.int a, .int b]) ∧ 0 ≤ a ∧ 0 ≤ b ∧ b < 2147483647
/-- all but what stands at p is as it was -/
def But (p : Addr) (H H' : Hp) : Prop := ∀ q o, q ≠ p → H q = some o → H' q = some o
theorem But.refl (p : Addr) (H : Hp) : But p H H := fun _ _ _ h => h
theorem But.trans {p : Addr} {H H1 H2 : Hp} (a : But p H H1) (b : But p H1 H2) : But p H H2 := fun q o n h => b q o n (a q o n h)
theorem But.of_same {p : Addr} {H H' : Hp} (h : Same H H') : But p H H' := fun q o _ e => h q o e
theorem But.upd {p : Addr} {H : Hp} {o : HO} : But p H (upd H p o) := fun q u n e => by rw [upd_ne n]; exact e
theorem But.new {p q : Addr} {H : Hp} {o : HO} (h : H q = none) : But p H (L2.upd H q o) := fun c u _ e => by rw [upd_ne (ne_of_none e h)]; exact e
theorem Same.new {q : Addr} {H : Hp} {o : HO} (h : H q = none) : Same H (upd H q o) := fun c u e => by rw [upd_ne (ne_of_none e h)]; exact e
theorem Pool.same {H H' : Hp} {p : Addr} (P : Pool H p) (e : Same H H') : Pool H' p := by
  obtain ⟨a, b, h, r⟩ := P.ex
  exact ⟨a, b, e _ _ h, r⟩
theorem Pool.there {H : Hp} {p : Addr} (P : Pool H p) : ∃ o, H p = some o := by
  obtain ⟨a, b, h, r⟩ := P.ex
  exact ⟨_, h⟩
def isMemT : List V → Bool
  | [k] => isWordV "nothing" k
  | [k, m] => (isWordV "times" k || isWordV "sum" k) && isIntTo 9 m
  | _ => false
def isMemH (H : Hp) : V → Bool
  | .ref a => match H a with
    | some (.tup xs) => isMemT xs
    | _ => false
  | _ => false
theorem isMemH_tup {H : Hp} {a : Addr} {xs : List V} (h : H a = some (.tup xs)) : isMemH H (.ref a) = isMemT xs := by simp [isMemH, h]
theorem isMemH_no {H : Hp} {x : V} (ha : Any H x) (h : (kindOf H x == "tuple") = false) : isMemH H x = false := by
  cases ha with
  | tup e => simp [kindOf, e] at h
  | lst e => simp [isMemH, e]
  | dK e => simp [isMemH, e]
  | _ => rfl
theorem isMemT_len {xs : List V} (h : ¬ (1 ≤ (xs.length : Int) ∧ (xs.length : Int) ≤ 2)) : isMemT xs = false := by
  match xs, h with
  | [], _ => rfl
  | [_], h => simp at h
  | [_, _], h => simp at h
  | _ :: _ :: _ :: _, _ => rfl

theorem q_leS {a b : Str} {A : Str → Str → Prop} (q : A a b) : ∃ i j, V.str a = .str i ∧ V.str b = .str j ∧ A i j := ⟨_, _, rfl, rfl, q⟩
def sgn (c : Nat) : V := .str ⟨#[c]⟩
def isLet (c : Nat) : Bool := decide (97 ≤ c) && decide (c ≤ 122)
def letV : V → V
  | .str s => .bl (s.cps.toList.all isLet)
  | v => v
theorem letV_sgn (c : Nat) : letV (sgn c) = .bl (isLet c) := by simp [letV, sgn]
theorem lt1 (a b : Nat) : decide ((⟨#[a]⟩ : Str).cps.toList < (⟨#[b]⟩ : Str).cps.toList) = decide (a < b) := by
  have e : ((⟨#[a]⟩ : Str).cps.toList < (⟨#[b]⟩ : Str).cps.toList) ↔ a < b := by
    show [a] < [b] ↔ a < b
    rw [List.cons_lt_cons_iff]
    constructor
    · rintro (h | ⟨_, h⟩)
      · exact h
      · exact absurd h (List.lt_irrefl _)
    · exact .inl
  by_cases h : a < b
  · rw [decide_eq_true h, decide_eq_true (e.mpr h)]
  · rw [decide_eq_false h, decide_eq_false (fun z => h (e.mp z))]
theorem at_sgn {l : List Nat} {i : Nat} {x : V} (h : (l.map sgn)[i]? = some x) : ∃ c, x = sgn c ∧ l[i]? = some c := by
  rw [List.getElem?_map] at h
  cases e : l[i]? with
  | none => rw [e] at h; cases h
  | some c => rw [e] at h; exact ⟨c, (Option.some.inj h).symm, rfl⟩
theorem str_a : ("a" : Str) = ⟨#[97]⟩ := by decide +kernel
theorem str_z : ("z" : Str) = ⟨#[122]⟩ := by decide +kernel

theorem But.seq {K : PySem.W.Frag} {H H' : Hp} {p a : Addr} {xs : List V} (e : But p H H') (n : a ≠ p) (h : SqL K H a xs) : SqL K H' a xs := by
  rcases h with (h | ⟨o, h⟩) | h
  · exact .inl (.inl (e _ _ n h))
  · exact .inl (.inr ⟨o, e _ _ n h⟩)
  · exact .inr h
theorem But.seqT {K : PySem.W.Frag} {H H' : Hp} {p a : Addr} {xs : List V} (e : But p H H') (n : a ≠ p) (h : SqT K H a xs) : SqT K H' a xs := by
  rcases h with (h | ⟨o, h⟩) | h
  · exact .inl (.inl (e _ _ n h))
  · exact .inl (.inr ⟨o, e _ _ n h⟩)
  · exact .inr h

/-- what an expression hands on, said once: R of the value and the heap -/
theorem q_cut {te : TE} {σ : L2.St} {H : Hp} {Q : VK} (R : V → Hp → Prop) (h : ∀ Q' : VK, (∀ v H', R v H' → Q' v H') → te σ H Q') (k : ∀ v H', R v H' → Q v H') : te σ H Q := h Q k

/-! ### new objects, loops over what was just laid -/
theorem q_new {H : Hp} {n : Nat} {A : Addr → Prop} (hl : n ≤ sizeLine) (q : ∀ p, H p = none → A p) : n ≤ sizeLine ∧ ∀ p, H p = none → A p := ⟨hl, q⟩
theorem q_dnewK {σ : L2.St} {H : Hp} {Q : VK} (q : ∀ p, H p = none → Q (.ref p) (upd H p (.dK []))) : tDNewK σ H Q := q
theorem q_for {wi : TI} {g : TG} {tb : TS} {D : Ends} {σ : L2.St} {H : Hp} (h : wi σ H fun J H1 => ∃ W : Nat → Nat → L2.St → Hp → Prop, (∃ m, W 0 m σ H1) ∧ ∀ i m σ H, W i m σ H →
    (J.stop i H ∧ D.nx σ H) ∨ (J.go i H ∧ ∃ N : L2.St → Hp → Prop, (∀ σ' H', N σ' H' → ∃ m', m' < m ∧ W (i + 1) m' σ' H') ∧ ∀ x H', J.yld i H x H' → g x σ H' fun σ2 H2 => tb { D with nx := N, ct := N, bk := D.nx } σ2 H2)) : tFor wi g tb D σ H := h
theorem q_iList {K : PySem.W.Frag} {tl : TE} {σ : L2.St} {H : Hp} {R : It → Hp → Prop} (h : tl σ H fun x H1 => ∃ a, x = .ref a ∧ (∃ xs, SqL K H1 a xs) ∧ R (Itl K a) H1) : iList K tl σ H R := h
theorem q_iRng1 {ta : TA} {σ : L2.St} {H : Hp} {R : It → Hp → Prop} (h : ta σ H fun vs H1 => ∃ j : Int, vs = [.int j] ∧ -(2 ^ 62) ≤ j ∧ j < 2 ^ 62 ∧ R (Itr 0 j.toNat) H1) : iRng1 ta σ H R := h
theorem set_self {σ : L2.St} {j : Nat} {y : Option V} (h : σ[j]? = some y) : σ = σ.set j y := by
  refine List.ext_getElem? fun i => ?_
  rw [List.getElem?_set]
  by_cases e : j = i
  · subst e
    have hj := (List.getElem?_eq_some_iff.mp h).1
    rw [if_pos rfl, if_pos hj, h]
  · rw [if_neg e]
/-- a loop that only looks: each turn leaves the slots but its own, and what was tracked -/
theorem for_chk {K : PySem.W.Frag} {a : Addr} {xs : List V} {j : Nat} {tb : TS} {D : Ends} {σ : L2.St} {H : Hp} (hs : SqL K H a xs) (h0 : ∃ y, σ[j]? = some y)
    (hb : ∀ x ∈ xs, ∀ H' (N : L2.St → Hp → Prop), Same H H' → (∀ y' H'', Same H H'' → N (σ.set j y') H'') → tb { D with nx := N, ct := N, bk := D.nx } (σ.set j (some x)) H')
    (hd : ∀ y H', Same H H' → D.nx (σ.set j y) H') :
    ∃ W : Nat → Nat → L2.St → Hp → Prop, (∃ m, W 0 m σ H) ∧ ∀ i m σ H, W i m σ H →
      ((Itl K a).stop i H ∧ D.nx σ H) ∨ ((Itl K a).go i H ∧ ∃ N : L2.St → Hp → Prop, (∀ σ' H', N σ' H' → ∃ m', m' < m ∧ W (i + 1) m' σ' H') ∧ ∀ x H', (Itl K a).yld i H x H' → gName j x σ H' fun σ2 H2 => tb { D with nx := N, ct := N, bk := D.nx } σ2 H2) := by
  obtain ⟨y0, h0⟩ := h0
  refine for_list (K := K) (a := a) (xs := xs) (fun _ σ' H' => ∃ y, σ' = σ.set j y ∧ Same H H') ⟨y0, set_self h0, Same.refl H⟩ (fun i σ' H' _ ⟨_, _, e⟩ => e.seq hs) ?_ ?_
  · rintro i x σ' H' hx ⟨y, rfl, e⟩
    show tb _ ((σ.set j y).set j (some x)) H'
    rw [List.set_set]
    exact hb x (List.mem_of_getElem? hx) H' _ e fun y' H'' e' => ⟨y', rfl, e'⟩
  · rintro σ' H' ⟨y, rfl, e⟩
    exact hd y H' e
theorem Pool.but {H : Hp} {p q : Addr} {o : HO} (P : Pool H p) (h : H q = none) : Pool (upd H q o) p := P.same (Same.new h)

/-! ### names out of signs -/
theorem join_sgn (cs : List Nat) : (Txt.join ("" : Str) (cs.map fun c => (⟨#[c]⟩ : Str))).cps.toList = cs := by
  rw [TL.join_eq]
  have e : ("" : Str) = ⟨#[]⟩ := by decide +kernel
  rw [e]
  match cs with
  | [] => rfl
  | [c] => rfl
  | c :: d :: r =>
    have ih := join_sgn (d :: r)
    rw [TL.join_eq, e] at ih
    show ((⟨#[c]⟩ : Str) ++ ⟨#[]⟩ ++ Str.join ⟨#[]⟩ ((d :: r).map fun c => (⟨#[c]⟩ : Str))).cps.toList = _
    rw [tl_app, tl_app, ih]
    rfl
theorem isName_of {s : Str} (h1 : 1 ≤ s.length) (h8 : s.length ≤ 8) (h : ∀ c ∈ s.cps.toList, isLet c = true) : isNameS s = true := by
  unfold isNameS
  rw [decide_eq_true h1, decide_eq_true h8, Bool.true_and, Bool.true_and, List.all_eq_true]
  exact h
theorem isName_bad {s : Str} {c : Nat} (h : c ∈ s.cps.toList) (hc : isLet c = false) : isNameS s = false := by
  unfold isNameS
  have e : (s.cps.toList.all fun c => decide (97 ≤ c) && decide (c ≤ 122)) = false := by
    rw [List.all_eq_false]
    exact ⟨c, h, by show ¬ isLet c = true; rw [hc]; exact Bool.false_ne_true⟩
  rw [e, Bool.and_false]
theorem isName_long {s : Str} (h : 8 < s.length) : isNameS s = false := by
  unfold isNameS
  rw [decide_eq_false (show ¬ s.length ≤ 8 by omega), Bool.and_false, Bool.false_and]

theorem q_gName {i : Nat} {v : V} {σ : L2.St} {H : Hp} {R : L2.St → Hp → Prop} (h : R (σ.set i (some v)) H) : gName i v σ H R := h
theorem q_m1 {r : V → List V → Hp → VK → Prop} {to te : TE} {σ : L2.St} {H : Hp} {Q : VK} (h : to σ H fun x H1 => (∃ a, x = .str a) ∧ te σ H1 fun y H2 => r x [y] H2 Q) : tM1 r to te σ H Q := h
theorem q_strI {s : Str} {A : Prop} (h : A) : (∃ a, V.str s = .str a) ∧ A := ⟨⟨_, rfl⟩, h⟩
/-- a list comprehension: its walk, then the new list at D -/
theorem q_lc {wi : TI} {g : TG} {tt : TT} {te : TE} {vs : List Nat} {σ : L2.St} {H : Hp} {Q : VK}
    (h : wi σ H fun J H1 => ∀ D, H1 D = none → ∃ W : Nat → Nat → Hp → Prop, (∃ m, W 0 m (upd H1 D (.lst []))) ∧ ∀ i m H, W i m H → (J.stop i H ∧ Q (.ref D) H) ∨
      (J.go i H ∧ ∃ Nx : Hp → Prop, (∀ H', Nx H' → ∃ m', m' < m ∧ W (i + 1) m' H') ∧ ∀ x H', J.yld i H x H' → g x (wipe σ vs) H' fun σ2 H2 => wipe σ2 vs = wipe σ vs ∧ tt σ2 H2 fun b H3 => if b = true then
        te σ2 H3 fun y H4 => ∃ acc, H4 D = some (.lst acc) ∧ acc.length < sizeLine ∧ Nx (upd H4 D (.lst (acc ++ [y]))) else Nx H3)) : tLc wi g tt te vs σ H Q := h
theorem Same.but {H H1 H2 : Hp} {p : Addr} (e : Same H H1) (hp : H p = none) (b : But p H1 H2) : Same H H2 := fun c o h => b c o (fun z => by rw [z, hp] at h; cases h) (e c o h)

theorem Any.same {H H' : Hp} {v : V} (h : Any H v) (e : Same H H') : Any H' v := by
  cases h with
  | non => exact .non
  | bl b => exact .bl b
  | int i => exact .int i
  | str s => exact .str s
  | lst h => exact .lst (e _ _ h)
  | tup h => exact .tup (e _ _ h)
  | dK h => exact .dK (e _ _ h)
theorem Any.ref {H : Hp} {a : Addr} (h : Any H (.ref a)) : ∃ o, H a = some o := by
  cases h with
  | lst h => exact ⟨_, h⟩
  | tup h => exact ⟨_, h⟩
  | dK h => exact ⟨_, h⟩
/-- items of a tuple are looked at, too -/
def Any2 (H : Hp) (v : V) : Prop := Any H v ∧ ∀ a xs, v = .ref a → H a = some (.tup xs) → ∀ y ∈ xs, Any H y
theorem Any2.same {H H' : Hp} {v : V} (h : Any2 H v) (e : Same H H') : Any2 H' v := by
  refine ⟨h.1.same e, fun a xs ha hx y hy => ?_⟩
  subst ha
  obtain ⟨o, ho⟩ := h.1.ref
  have h1 := e _ _ ho
  rw [hx] at h1
  cases h1
  exact (h.2 a xs rfl ho y hy).same e
theorem Any2.flat {H : Hp} {v : V} (h : Any H v) (hr : ∀ a, v ≠ .ref a) : Any2 H v := ⟨h, fun a _ e => absurd e (hr a)⟩
theorem Any2.tup {H : Hp} {a : Addr} {xs : List V} (h : H a = some (.tup xs)) (hx : ∀ y ∈ xs, Any H y) : Any2 H (.ref a) := ⟨.tup h, fun b ys e hb => by cases e; rw [h] at hb; cases hb; exact hx⟩
theorem Any2.lst {H : Hp} {a : Addr} {xs : List V} (h : H a = some (.lst xs)) : Any2 H (.ref a) := ⟨.lst h, fun b ys e hb => by cases e; rw [h] at hb; cases hb⟩
theorem Any2.dK {H : Hp} {a : Addr} {xs : List (Key × V)} (h : H a = some (.dK xs)) : Any2 H (.ref a) := ⟨.dK h, fun b ys e hb => by cases e; rw [h] at hb; cases hb⟩
theorem isMemH_same {H H' : Hp} {v : V} (h : Any H v) (e : Same H H') : isMemH H' v = isMemH H v := by
  cases h with
  | lst h => simp [isMemH, h, e _ _ h]
  | tup h => simp [isMemH, h, e _ _ h]
  | dK h => simp [isMemH, h, e _ _ h]
  | _ => rfl
theorem isMemH_lst {H : Hp} {a : Addr} {xs : List V} (h : H a = some (.lst xs)) : isMemH H (.ref a) = false := by simp [isMemH, h]
theorem isMemH_dK {H : Hp} {a : Addr} {xs : List (Key × V)} (h : H a = some (.dK xs)) : isMemH H (.ref a) = false := by simp [isMemH, h]
theorem sum_ones (cs : List Nat) : ((cs.map fun c => (⟨#[c]⟩ : Str)).map (·.length)).sum = cs.length := by
  induction cs with
  | nil => rfl
  | cons c r ih => rw [List.map_cons, List.map_cons, List.sum_cons, ih, List.length_cons]; show 1 + _ = _; omega

/-- the same, with what is true of each item, and stays so -/
theorem for_chkR {K : PySem.W.Frag} {a : Addr} {xs : List V} {j : Nat} {tb : TS} {D : Ends} {σ : L2.St} {H : Hp} (hs : SqL K H a xs) (h0 : ∃ y, σ[j]? = some y) (R : Hp → V → Prop) (mono : ∀ v H', R H v → Same H H' → R H' v) (hR : ∀ v ∈ xs, R H v)
    (hb : ∀ x H' (N : L2.St → Hp → Prop), R H' x → Same H H' → (∀ y' H'', Same H H'' → N (σ.set j y') H'') → tb { D with nx := N, ct := N, bk := D.nx } (σ.set j (some x)) H')
    (hd : ∀ y H', Same H H' → D.nx (σ.set j y) H') :
    ∃ W : Nat → Nat → L2.St → Hp → Prop, (∃ m, W 0 m σ H) ∧ ∀ i m σ H, W i m σ H → ((Itl K a).stop i H ∧ D.nx σ H) ∨
      ((Itl K a).go i H ∧ ∃ N : L2.St → Hp → Prop, (∀ σ' H', N σ' H' → ∃ m', m' < m ∧ W (i + 1) m' σ' H') ∧ ∀ x H', (Itl K a).yld i H x H' → gName j x σ H' fun σ2 H2 => tb { D with nx := N, ct := N, bk := D.nx } σ2 H2) :=
  for_chk hs h0 (fun x hx H' N e hN => hb x H' N (mono x H' (hR x hx) e) e hN) hd

theorem at_new {H : Hp} {q c : Addr} {o u : HO} (h : H q = none) (e : H c = some u) : upd H q o c = some u := Same.new h c u e
theorem at_same {H H' : Hp} {c : Addr} {u : HO} (h : Same H H') (e : H c = some u) : H' c = some u := h c u e
end Kx

namespace Kx
open PySem PySem.Spec L2
/-! ### a tuple of the module, an own class's in, not in -/
def KTup (K : PySem.W.Frag) (a : Addr) (xs : List V) : Prop :=
  ∃ (o : Obj) (its : Array Value) (n : Nat), K.lookup a = some o ∧ o.cls = .type "tuple" ∧ o.data = .seq its n ∧ its.size ≤ sizeLine ∧ Vals xs its.toList
theorem KTup.sq {K : PySem.W.Frag} {H : Hp} {a : Addr} {xs : List V} (h : KTup K a xs) : SqT K H a xs := .inr h
section
variable {X : Cx} {CX : CXT} {k : Nat} {C f : Addr} {fd : FuncData} {ps : List Str} {sp : Sp} {E : XK}
def rInOwn (C : Addr) (sp : Sp) (E : XK) (g : Bool → Bool) : R2 := fun x y H Q => ∃ a dx fs, y = .ref a ∧ H a = some (.ins C dx fs) ∧ sp [y, x] H (fun v H' => ∃ b, v = .bl b ∧ Q (.bl (g b)) H') E
theorem op_in_own (F : FnOk X.prog X.w X.K X.mg X.base CX k f fd ps sp) (hr : Room k X.A) (m : Meth X.K C "__contains__" f) (hb : Binds X.K fd ps []) (hx : Passes CX X E) :
    OpR X (compareOp .In) (rInOwn C sp E id) := by
  intro pins s σ H x y v u Q I rx ry h
  obtain ⟨a, dx, fs, rfl, ha, q⟩ := h
  cases ry
  obtain ⟨mA, J, _⟩ := ins_get I.hok ha
  obtain ⟨od, J, _⟩ := J.look
  obtain ⟨m', hF⟩ := I.fr
  refine PySem.W.in_K hF I.ok.mod.kin J m.at_ m.fn (wpAny_mono (run_fn (us := [.ref a, v]) (vs := [.ref a, x]) F hr hb .nil hx I (.cons rfl (.cons rx .nil)) q) ?_ fun _ _ z => z)
  rintro r s' ⟨z, H', I', rz, b, rfl, qb⟩
  cases rz
  exact wpAny_truthy_bool ⟨.bl b, H', I', rfl, qb⟩
theorem op_notIn_own (F : FnOk X.prog X.w X.K X.mg X.base CX k f fd ps sp) (hr : Room k X.A) (m : Meth X.K C "__contains__" f) (hb : Binds X.K fd ps []) (hx : Passes CX X E) :
    OpR X (compareOp .NotIn) (rInOwn C sp E not) := by
  intro pins s σ H x y v u Q I rx ry h
  obtain ⟨a, dx, fs, rfl, ha, q⟩ := h
  cases ry
  obtain ⟨mA, J, _⟩ := ins_get I.hok ha
  obtain ⟨od, J, _⟩ := J.look
  obtain ⟨m', hF⟩ := I.fr
  refine PySem.W.notIn_K hF I.ok.mod.kin J m.at_ m.fn (wpAny_mono (run_fn (us := [.ref a, v]) (vs := [.ref a, x]) F hr hb .nil hx I (.cons rfl (.cons rx .nil)) q) ?_ fun _ _ z => z)
  rintro r s' ⟨z, H', I', rz, b, rfl, qb⟩
  cases rz
  exact wpAny_truthy_bool ⟨.bl (!b), H', I', rfl, qb⟩
end
end Kx
namespace Kx
open PySem PySem.Spec L2
theorem kindOf_same {H H' : Hp} {x : V} (h : Any H x) (e : Same H H') : kindOf H' x = kindOf H x := by
  cases h with
  | lst h => simp [kindOf, h, e _ _ h]
  | tup h => simp [kindOf, h, e _ _ h]
  | dK h => simp [kindOf, h, e _ _ h]
  | _ => rfl
theorem kit_lt {K : PySem.W.Frag} {a : String} (h : a ∈ ["NoneType", "bool", "int", "str", "list", "tuple", "dict"]) : PySem.W.kitAny K (.type a) [.type "list", .type "tuple"] = some (a == "list" || a == "tuple") := by
  refine kitAny_cons (b := a == "list") (kit_ty (kit_list a h)) (fun hb => ?_) (fun hb => by rw [hb]; rfl)
  refine kitAny_cons (b := a == "tuple") (kit_ty (kit_tuple a h)) (fun hc => ?_) (fun hc => by rw [hb, hc]; rfl)
  rw [hb, hc]
  rfl
/-- an instance of an own class, asked for by isinstance -/
theorem q_isOwn {K : PySem.W.Frag} {H : Hp} {a C dx : Addr} {fs : List (Str × V)} {Q : VK} (e : H a = some (.ins C dx fs)) (cl : Cls K C) (ha : PySem.W.findIn K (.ref C) "__class__" = some (some (.builtin "object.__class__")))
    (hn : PySem.W.specialIn K (.builtin "object.__class__") "__get__" = some (some (.builtin "getset_descriptor.__get__"))) (htk : PySem.W.takesIn K (.builtin "object.__class__") = some true) (hm : PySem.W.mroIn K C (.type "object") = some true)
    (hk : PySem.W.kitOne K (.ref C) (.ref C) = some true) (q : Q (.bl true) H) : rIsi K [.ref a, .ref C] H Q := ⟨.ref a, .ref C, _, _, _, rfl, .own C, .base (.ins e cl ha hn htk hm), hk, q⟩
end Kx
namespace Kx
theorem hu65_of {A : PySem.Around} {k : Nat} (hr : L2.Room k A) : A.units + 65 < PySem.cLine := by have := hr.un; omega
end Kx
/-! ### rules with the written part said by name (as a comprehension's element wants them) -/
namespace Kx
open PySem PySem.Spec L2
section
variable {X : Cx} {K : PySem.W.Frag}
theorem pe_fldK (hK : X.K = K) {e : Expr} {ta : TE} {f : Str} {pos : Pos} (he : PE X e ta) (hb : attributeBase e f X.env (eval e X.env) = eval e X.env) : PE X (.Attribute e f pos) (tFld K ta f) := by subst hK; exact pe_fld he hb
theorem pg_tupK (hK : X.K = K) (n : Nat) {es : List Expr} {k : Nat} {t : TGs} {pos : Pos} (hc : X.calm = true) (h : PGs X es t) (hn : (assignEach es X.env).length = n := by rfl) (hst : (assignEach es X.env).findIdx? (·.1) = none := by rfl) : PG X (.Tuple es k pos) (gTup K n t) := by
  subst hK; exact pg_tup hc h hn hst
theorem ix_listK (hK : X.K = K) : IxR X (rIxL K) := by subst hK; exact ix_list
theorem ix_tupK (hK : X.K = K) : IxR X (rIxT K) := by subst hK; exact ix_tup
theorem ix_seqK (hK : X.K = K) : IxR X (rIx K) := by subst hK; exact ix_seq
theorem sl_listK (hK : X.K = K) : SlR X (rSlL K) := by subst hK; exact sl_list
theorem op_in_seqK (hK : X.K = K) : OpR X (compareOp .In) (rIn K false) := by subst hK; exact op_in_seq
theorem op_notIn_seqK (hK : X.K = K) : OpR X (compareOp .NotIn) (rIn K true) := by subst hK; exact op_notIn_seq
theorem op_eqDK (hK : X.K = K) (hu : X.A.units + 64 < cLine) : OpR X (compareOp .Eq) (rEqD K) := by subst hK; exact op_eqD hu
theorem op_neDK (hK : X.K = K) (hu : X.A.units + 64 < cLine) : OpR X (compareOp .NotEq) (rNeD K) := by subst hK; exact op_neD hu
theorem op_inDK (hK : X.K = K) (hu : X.A.units + 65 < cLine) : OpR X (compareOp .In) (rInD K) := by subst hK; exact op_inD hu
theorem op_notInDK (hK : X.K = K) (hu : X.A.units + 65 < cLine) : OpR X (compareOp .NotIn) (rNotInD K) := by subst hK; exact op_notInD hu
theorem call_isiK' (hK : X.K = K) : CallR X (.builtin "isinstance") (rIsi K) := by subst hK; exact call_isi
theorem call_isiTK (hK : X.K = K) : CallR X (.builtin "isinstance") (rIsiT K) := by subst hK; exact call_isiT
theorem cr_allK (hK : X.K = K) (hc : X.calm = true) : CallR X (.builtin "all") (rAll K) := by subst hK; exact cr_all hc
theorem cr_anyK (hK : X.K = K) (hc : X.calm = true) : CallR X (.builtin "any") (rAny K) := by subst hK; exact cr_any hc
theorem cr_sortedSK (hK : X.K = K) : CallR X (.builtin "sorted") (rSortedS K) := by subst hK; exact cr_sortedS
def rLen (K : PySem.W.Frag) : List V → Hp → VK → Prop := fun xs H Q => ∃ x n, xs = [x] ∧ LenV K x H n ∧ Q (.int (n : Nat)) H
theorem call_lenK (hK : X.K = K) : CallR X (.builtin "len") (rLen K) := by subst hK; exact call_len
def rListOf (K : PySem.W.Frag) : List V → Hp → VK → Prop := fun xs H Q => ∃ p ys, xs = [.ref p] ∧ (SqL K H p ys ∨ SqT K H p ys) ∧ ∀ l, H l = none → Q (.ref l) (upd H l (.lst ys))
theorem call_list_ofK (hK : X.K = K) : CallR X (.type "list") (rListOf K) := by subst hK; exact call_list_of
def rTupOf (K : PySem.W.Frag) : List V → Hp → VK → Prop := fun xs H Q => ∃ p ys, xs = [.ref p] ∧ ((SqL K H p ys ∧ ∀ l, H l = none → Q (.ref l) (upd H l (.tup ys))) ∨ (SqT K H p ys ∧ Q (.ref p) H))
theorem call_tuple_ofK (hK : X.K = K) : CallR X (.type "tuple") (rTupOf K) := by subst hK; exact call_tuple_of
theorem pi_listK (hK : X.K = K) {tg l : Expr} {tl : TE} (hl : PE X l tl) : PI X tg l (iList K tl) := by subst hK; exact pi_list hl
theorem pi_tupK (hK : X.K = K) {tg l : Expr} {tl : TE} (hl : PE X l tl) : PI X tg l (iTup K tl) := by subst hK; exact pi_tup hl
theorem q_lenE {xs : List V} {H : Hp} {Q : VK} (h : ∃ x n, xs = [x] ∧ LenV K x H n ∧ Q (.int (n : Nat)) H) : rLen K xs H Q := h
theorem q_iTup {tl : TE} {σ : L2.St} {H : Hp} {R : It → Hp → Prop} (h : tl σ H fun x H1 => ∃ a, x = .ref a ∧ (∃ xs, SqT K H1 a xs) ∧ R (Itt K a) H1) : iTup K tl σ H R := h
theorem q_gTup {n : Nat} {t : TGs} {a : Addr} {xs : List V} {σ : L2.St} {H : Hp} {R : L2.St → Hp → Prop} (h : SqT K H a xs) (hl : xs.length = n) (q : t xs σ H R) : gTup K n t (.ref a) σ H R := ⟨a, xs, rfl, h, hl, q⟩
theorem q_gCons {t : TG} {u : TGs} {v : V} {vs : List V} {σ : L2.St} {H : Hp} {R : L2.St → Hp → Prop} (h : t v σ H fun σ' H' => u vs σ' H' R) : gCons t u (v :: vs) σ H R := ⟨v, vs, rfl, h⟩
theorem q_gNil {σ : L2.St} {H : Hp} {R : L2.St → Hp → Prop} (h : R σ H) : gNil [] σ H R := ⟨rfl, h⟩
end
end Kx

namespace Kx
open PySem PySem.Spec L2
/-! ### data of tuples, which never change -/
def TupKeep (H H' : Hp) : Prop := ∀ q xs, H q = some (.tup xs) → H' q = some (.tup xs)
theorem TupKeep.refl (H : Hp) : TupKeep H H := fun _ _ h => h
theorem TupKeep.trans {H H1 H2 : Hp} (a : TupKeep H H1) (b : TupKeep H1 H2) : TupKeep H H2 := fun q xs h => b q xs (a q xs h)
theorem TupKeep.same {H H' : Hp} (e : Same H H') : TupKeep H H' := fun q xs h => e q _ h
theorem TupKeep.but {p : Addr} {H H' : Hp} (P : Pool H p) (e : But p H H') : TupKeep H H' := fun q xs h => e q _ (fun z => by
  obtain ⟨a, b, hp, _⟩ := P.ex
  rw [z, hp] at h
  cases h) h
theorem TupKeep.lst {H : Hp} {a : Addr} {xs : List V} {o : HO} (h : H a = some (.lst xs)) : TupKeep H (upd H a o) := fun q ys e => by
  rw [upd_ne (ne_of e h (fun z => nomatch z))]
  exact e
theorem TupKeep.new {H : Hp} {a : Addr} {o : HO} (h : H a = none) : TupKeep H (upd H a o) := .same (Same.new h)
mutual
inductive Td (H : Hp) : V → PyData → Prop
  | non : Td H .non .none
  | bl (b : Bool) : Td H (.bl b) (.bool b)
  | int (i : Int) : Td H (.int i) (.int i)
  | str (x : Str) : Td H (.str x) (.str x)
  | tup {a : Addr} {xs : List V} {ds : List PyData} : H a = some (.tup xs) → TdAll H xs ds → Td H (.ref a) (.tuple ds)
inductive TdAll (H : Hp) : List V → List PyData → Prop
  | nil : TdAll H [] []
  | cons {v : V} {vs : List V} {d : PyData} {ds : List PyData} : Td H v d → TdAll H vs ds → TdAll H (v :: vs) (d :: ds)
end
mutual
theorem Td.keep {H H' : Hp} (e : TupKeep H H') : ∀ (d : PyData) (v : V), Td H v d → Td H' v d
  | .none, _, .non => .non
  | .bool b, _, .bl _ => .bl b
  | .int i, _, .int _ => .int i
  | .str x, _, .str _ => .str x
  | .tuple ds, _, .tup h hs => .tup (e _ _ h) (TdAll.keep e ds _ hs)
theorem TdAll.keep {H H' : Hp} (e : TupKeep H H') : ∀ (ds : List PyData) (vs : List V), TdAll H vs ds → TdAll H' vs ds
  | [], _, .nil => .nil
  | d :: ds, _, .cons h hs => .cons (Td.keep e d _ h) (TdAll.keep e ds _ hs)
end
mutual
theorem Td.dp {K : PySem.W.Frag} {H : Hp} : ∀ (d : PyData) (v : V), Td H v d → Dp K H v d
  | .none, _, .non => .non
  | .bool b, _, .bl _ => .bl b
  | .int i, _, .int _ => .int i
  | .str x, _, .str _ => .str x
  | .tuple ds, _, .tup h hs => .tup (SqT.of h) (TdAll.dp ds _ hs)
theorem TdAll.dp {K : PySem.W.Frag} {H : Hp} : ∀ (ds : List PyData) (vs : List V), TdAll H vs ds → DpAll K H vs ds
  | [], _, .nil => .nil
  | d :: ds, _, .cons h hs => .cons (Td.dp d _ h) (TdAll.dp ds _ hs)
end
theorem TdAll.len {H : Hp} : ∀ {vs : List V} {ds : List PyData}, TdAll H vs ds → vs.length = ds.length
  | _, _, .nil => rfl
  | _, _, .cons _ hs => congrArg (· + 1) (TdAll.len hs)
theorem TdAll.get {H : Hp} : ∀ {vs : List V} {ds : List PyData}, TdAll H vs ds → ∀ {i : Nat} {v : V}, vs[i]? = some v → ∃ d, ds[i]? = some d ∧ Td H v d
  | _, _, .cons h _, 0, v, e => by simp at e; subst e; exact ⟨_, by simp, h⟩
  | _, _, .cons _ hs, i + 1, v, e => by
    obtain ⟨d, h1, h2⟩ := TdAll.get hs (i := i) (v := v) (by simpa using e)
    exact ⟨d, by simpa using h1, h2⟩
theorem TdAll.app {H : Hp} : ∀ {vs ws : List V} {ds es : List PyData}, TdAll H vs ds → TdAll H ws es → TdAll H (vs ++ ws) (ds ++ es)
  | _, _, _, _, .nil, b => b
  | _, _, _, _, .cons h hs, b => .cons h (TdAll.app hs b)
theorem TdAll.one {H : Hp} {v : V} {d : PyData} (h : Td H v d) : TdAll H [v] [d] := .cons h .nil
theorem TdAll.strs {H : Hp} : ∀ ns : List Str, TdAll H (ns.map V.str) (ns.map PyData.str)
  | [] => .nil
  | _ :: r => .cons (.str _) (TdAll.strs r)
/-- a list of such data -/
def LstD (H : Hp) (a : Addr) (ds : List PyData) : Prop := ∃ xs, H a = some (.lst xs) ∧ TdAll H xs ds
theorem LstD.dp {K : PySem.W.Frag} {H : Hp} {a : Addr} {ds : List PyData} (h : LstD H a ds) : Dp K H (.ref a) (.list ds) := by
  obtain ⟨xs, e, hs⟩ := h
  exact .lst (SqL.of e) (TdAll.dp ds _ hs)
theorem LstD.same {H H' : Hp} {a : Addr} {ds : List PyData} (h : LstD H a ds) (e : Same H H') : LstD H' a ds := by
  obtain ⟨xs, q, hs⟩ := h
  exact ⟨xs, e _ _ q, hs.keep (.same e)⟩
theorem LstD.but {H H' : Hp} {a p : Addr} {ds : List PyData} (h : LstD H a ds) (P : Pool H p) (n : a ≠ p) (e : But p H H') : LstD H' a ds := by
  obtain ⟨xs, q, hs⟩ := h
  exact ⟨xs, e _ _ n q, hs.keep (.but P e)⟩
/-- what is no list stands when draws are made -/
theorem But.keep {H H' : Hp} {a p : Addr} {o : HO} (P : Pool H p) (e : But p H H') (h : H a = some o) (ho : ∀ xs, o ≠ .lst xs) : H' a = some o := e a o (fun z => by
  obtain ⟨x, y, hp, _⟩ := P.ex
  rw [z, hp] at h
  exact ho _ (Option.some.inj h).symm) h

/-! ### fields -/
theorem lookup_hit {k : Str} {v : V} {r : List (Str × V)} : List.lookup k ((k, v) :: r) = some v := by simp [List.lookup]
theorem lookup_miss {k k' : Str} {v : V} {r : List (Str × V)} (h : k ≠ k') : List.lookup k ((k', v) :: r) = List.lookup k r := by
  have e : (k == k') = false := by simpa using h
  simp [List.lookup, e]
theorem putF_nil {f : Str} {v : V} : putF f v [] = [(f, v)] := rfl
theorem putF_ne {f g : Str} {v w : V} {r : List (Str × V)} (h : g ≠ f) : putF f v ((g, w) :: r) = (g, w) :: putF f v r := by
  show (if g = f then _ else _) = _
  rw [if_neg h]
section
variable {K : PySem.W.Frag} {σ : L2.St} {H : Hp} {a C dx : Addr} {fs : List (Str × V)} {f : Str} {v : V} {Q : VK} {ta tv : TE} {D : Ends}
theorem q_fldE (h : ta σ H fun x H1 => ∃ a C dx fs v, x = .ref a ∧ H1 a = some (.ins C dx fs) ∧ Cls K C ∧ NoAttr K C f ∧ fs.lookup f = some v ∧ Q v H1) : tFld K ta f σ H Q := h
theorem q_fld {A : V → Prop} (h : H a = some (.ins C dx fs)) (c : Cls K C) (n : NoAttr K C f) (l : fs.lookup f = some v) (q : A v) : ∃ a' C dx fs v, V.ref a = .ref a' ∧ H a' = some (.ins C dx fs) ∧ Cls K C ∧ NoAttr K C f ∧ fs.lookup f = some v ∧ A v := ⟨_, _, _, _, _, rfl, h, c, n, l, q⟩
theorem q_sfldE (h : tv σ H fun y H1 => ta σ H1 fun x H2 => ∃ a C dx fs, x = .ref a ∧ H2 a = some (.ins C dx fs) ∧ Cls K C ∧ NoAttr K C f ∧ fs.length < 1000 ∧ D.nx σ (upd H2 a (.ins C dx (putF f y fs)))) : sFld K ta tv f D σ H := h
theorem q_sfld {A : Addr → Addr → Addr → List (Str × V) → Prop} (h : H a = some (.ins C dx fs)) (c : Cls K C) (n : NoAttr K C f) (l : fs.length < 1000) (q : A a C dx fs) : ∃ a' C dx fs, V.ref a = .ref a' ∧ H a' = some (.ins C dx fs) ∧ Cls K C ∧ NoAttr K C f ∧ fs.length < 1000 ∧ A a' C dx fs := ⟨_, _, _, _, rfl, h, c, n, l, q⟩
end

theorem kit_self {K : PySem.W.Frag} {C : Addr} : PySem.W.kitOne K (.ref C) (.ref C) = some true := by
  unfold PySem.W.kitOne
  rw [if_pos (beq_self_eq_true _)]
/-! ### towns as data -/
structure TillD where
  name : Str
  limit : Int
  heeds : Bool
inductive MemD
  | nothing
  | times (n : Int)
  | sum (n : Int)
structure ModelD where
  tills : List TillD
  links : List (Str × Str)
  money : Int
  memory : MemD
  tops : Int
  numbered : Bool
def tillP (t : TillD) : PyData := .tuple [.str t.name, .int t.limit, .bool t.heeds]
def linkP (l : Str × Str) : PyData := .tuple [.str l.1, .str l.2]
def memP : MemD → PyData
  | .nothing => .tuple [.str "nothing"]
  | .times n => .tuple [.str "times", .int n]
  | .sum n => .tuple [.str "sum", .int n]
def ModelD.names (M : ModelD) : List Str := M.tills.map (·.name)
/-- the law's dict of a town -/
def modelK (tl ll : Addr) (money : Int) (mm : Addr) (tops : Int) (numbered : Bool) : List (Key × V) :=
  [(.inr "tills", .ref tl), (.inr "links", .ref ll), (.inr "money", .int money), (.inr "memory", .ref mm), (.inr "tops", .int tops), (.inr "numbered", .bl numbered)]
structure ModelAt (H : Hp) (m : Addr) (M : ModelD) (tl ll mm : Addr) : Prop where
  d : H m = some (.dK (modelK tl ll M.money mm M.tops M.numbered))
  tills : LstD H tl (M.tills.map tillP)
  links : LstD H ll (M.links.map linkP)
  mem : Td H (.ref mm) (memP M.memory)
theorem ModelAt.same {H H' : Hp} {m tl ll mm : Addr} {M : ModelD} (h : ModelAt H m M tl ll mm) (e : Same H H') : ModelAt H' m M tl ll mm := ⟨e _ _ h.d, h.tills.same e, h.links.same e, h.mem.keep (.same e) _ _⟩
/-- what may be in a town -/
structure Good (M : ModelD) : Prop where
  t1 : 1 ≤ M.tills.length
  t4 : M.tills.length ≤ 4
  nd : M.names.Nodup
  nm : ∀ t ∈ M.tills, isNameS t.name = true
  lm : ∀ t ∈ M.tills, 0 ≤ t.limit ∧ t.limit ≤ 9
  lk : ∀ l ∈ M.links, l.1 ∈ M.names ∧ l.2 ∈ M.names ∧ l.1.cps.toList < l.2.cps.toList
  ln : M.links.Nodup
  mo : 0 ≤ M.money ∧ M.money ≤ 9
  me : match M.memory with
    | .nothing => True
    | .times n => 0 ≤ n ∧ n ≤ 9
    | .sum n => 0 ≤ n ∧ n ≤ 9
  tp : 0 ≤ M.tops ∧ M.tops ≤ 5
def tillF (t : TillD) : List (Str × V) := [("name", .str t.name), ("limit", .int t.limit), ("heeds", .bl t.heeds)]
def TillAt (c : Addr) (H : Hp) (a : Addr) (t : TillD) : Prop := ∃ dx, H a = some (.ins c dx (tillF t))
theorem TillAt.same {c a : Addr} {H H' : Hp} {t : TillD} (h : TillAt c H a t) (e : Same H H') : TillAt c H' a t := let ⟨dx, h⟩ := h; ⟨dx, e _ _ h⟩
end Kx
namespace Kx
open PySem PySem.Spec L2
theorem isName_len {s : Str} (h : isNameS s = true) : s.length ≤ 8 := by
  unfold isNameS at h
  rw [Bool.and_eq_true, Bool.and_eq_true] at h
  exact of_decide_eq_true h.1.2
end Kx
namespace Kx
open PySem PySem.Spec L2
theorem putF_lt {f : Str} {v : V} : ∀ {fs : List (Str × V)} {n : Nat}, fs.length < n → (putF f v fs).length < n + 1
  | [], n, h => by show 1 < n + 1; exact Nat.succ_lt_succ h
  | (g, w) :: r, n, h => by
    show (if g = f then (g, v) :: r else (g, w) :: putF f v r).length < n + 1
    split
    · exact Nat.lt_succ_of_lt h
    · match n, h with
      | n + 1, h => exact Nat.succ_lt_succ (putF_lt (Nat.lt_of_succ_lt_succ h))
end Kx
namespace Kx
open PySem PySem.Spec L2
/-- two lists, item by item -/
inductive All2 {α β : Type} (R : α → β → Prop) : List α → List β → Prop
  | nil : All2 R [] []
  | cons {a : α} {b : β} {as : List α} {bs : List β} : R a b → All2 R as bs → All2 R (a :: as) (b :: bs)
theorem All2.length_eq {α β : Type} {R : α → β → Prop} : ∀ {as : List α} {bs : List β}, All2 R as bs → as.length = bs.length
  | _, _, .nil => rfl
  | _, _, .cons _ h => congrArg (· + 1) h.length_eq
theorem All2.get {α β : Type} {R : α → β → Prop} : ∀ {as : List α} {bs : List β}, All2 R as bs → ∀ {i : Nat} {a : α}, as[i]? = some a → ∃ b, bs[i]? = some b ∧ R a b
  | _, _, .cons h _, 0, a, e => by simp at e; subst e; exact ⟨_, by simp, h⟩
  | _, _, .cons _ h, i + 1, a, e => by
    obtain ⟨b, h1, h2⟩ := h.get (i := i) (a := a) (by simpa using e)
    exact ⟨b, by simpa using h1, h2⟩
theorem All2.imp {α β : Type} {R S : α → β → Prop} (f : ∀ a b, R a b → S a b) : ∀ {as : List α} {bs : List β}, All2 R as bs → All2 S as bs
  | _, _, .nil => .nil
  | _, _, .cons h r => .cons (f _ _ h) (r.imp f)
theorem All2.snoc {α β : Type} {R : α → β → Prop} : ∀ {as : List α} {bs : List β} {a : α} {b : β}, All2 R as bs → R a b → All2 R (as ++ [a]) (bs ++ [b])
  | _, _, _, _, .nil, h => .cons h .nil
  | _, _, _, _, .cons h r, q => .cons h (r.snoc q)
/-- the links of a town, ascending -/
def ascL (ord : List Str) (links : List (Str × Str)) : List (Str × Str) := ord.flatMap fun a => (ord.map fun b => (a, b)).filter fun l => links.contains l
structure TownAt (cT cC : Addr) (H : Hp) (a : Addr) (M : ModelD) : Prop where
  good : Good M
  ex : ∃ (dx tt bn lk mm : Addr) (rs : List V),
    H a = some (.ins cT dx [("_tills", .ref tt), ("_by_name", .ref bn), ("links", .ref lk), ("money", .int M.money), ("memory", .ref mm), ("tops", .int M.tops), ("numbered", .bl M.numbered)]) ∧
    H tt = some (.tup rs) ∧ All2 (fun v t => ∃ x, v = V.ref x ∧ TillAt cC H x t) rs M.tills ∧
    H bn = some (.dK ((M.names.zip rs).map fun p => (Sum.inr p.1, p.2))) ∧ Td H (.ref lk) (.tuple (M.links.map linkP)) ∧ Td H (.ref mm) (memP M.memory)
theorem lc_idx {J : It} {n : Nat} {G : Hp → Prop} {Y : Nat → Hp → V → Hp → Prop} (w : Walk J n G Y) {j : Nat} {te : TE} {σ : L2.St} {H1 : Hp} {D : Addr} {Qd : Hp → Prop} (xs ys : List V) (hn : n = xs.length) (hl : xs.length = ys.length) (hN : n < sizeLine)
    (hG : ∀ o, G (upd H1 D o)) (hY : ∀ i H x H', Y i H x H' → H' = H ∧ xs[i]? = some x)
    (he : ∀ (i : Nat) (x y : V) (o : HO) (Q : VK), xs[i]? = some x → ys[i]? = some y → Q y (upd H1 D o) → te ((wipe σ [j]).set j (some x)) (upd H1 D o) Q) (hd : Qd (upd H1 D (.lst ys))) :
    ∃ W : Nat → Nat → Hp → Prop, (∃ m, W 0 m (upd H1 D (.lst []))) ∧ ∀ i m H, W i m H → (J.stop i H ∧ Qd H) ∨ (J.go i H ∧ ∃ Nx : Hp → Prop, (∀ H', Nx H' → ∃ m', m' < m ∧ W (i + 1) m' H') ∧
      ∀ x H', J.yld i H x H' → gName j x (wipe σ [j]) H' fun σ2 H2 => wipe σ2 [j] = wipe σ [j] ∧ tYes σ2 H2 fun b H3 => if b = true then te σ2 H3 fun y H4 => ∃ acc, H4 D = some (.lst acc) ∧ acc.length < sizeLine ∧ Nx (upd H4 D (.lst (acc ++ [y]))) else Nx H3) := by
  refine lc_it w (fun i H => H = upd H1 D (.lst (ys.take i))) rfl (fun i H _ e => by rw [e]; exact hG _) (fun i x H H' hi e y => ?_) (fun H e => by rw [e, hn, hl, List.take_length]; exact hd)
  obtain ⟨e2, hx⟩ := hY i H x H' y
  subst e2
  subst e
  refine ⟨wipe1 σ j (some x), ?_⟩
  refine q_yes ?_
  refine iteT ?_
  have hlt : i < ys.length := by omega
  have hy : ys[i]? = some ys[i] := List.getElem?_eq_getElem hlt
  refine he i x _ _ _ hx hy ⟨ys.take i, upd_same, ?_, ?_⟩
  · rw [List.length_take]; omega
  · rw [upd_upd, List.take_add_one, hy, Option.toList_some]
end Kx
namespace Kx
open PySem PySem.Spec L2
theorem q_dgetE {td ty : TE} {σ : L2.St} {H : Hp} {Q : VK} (h : td σ H fun x H1 => ty σ H1 fun y H2 => ∃ a v, x = .ref a ∧ DGet H2 a y (some v) ∧ Q v H2) : tDGet td ty σ H Q := h
theorem q_dgetK {H : Hp} {a : Addr} {kvs : List (Key × V)} {k : Key} {v : V} {A : V → Prop} (h : H a = some (.dK kvs)) (e : valV kvs k = some v) (q : A v) : ∃ a' v, V.ref a = .ref a' ∧ DGet H a' (kV k) (some v) ∧ A v := ⟨a, v, rfl, by rw [← e]; exact DGet.k h, q⟩
theorem q_dgetS {H : Hp} {a : Addr} {kvs : List (Key × V)} {s : Str} {v : V} {A : V → Prop} (h : H a = some (.dK kvs)) (e : valV kvs (.inr s : Key) = some v) (q : A v) : ∃ a' v, V.ref a = .ref a' ∧ DGet H a' (.str s) (some v) ∧ A v := q_dgetK (k := .inr s) h e q
theorem valV_hit {k : Key} {v : V} {r : List (Key × V)} : valV ((k, v) :: r) k = some v := by simp [valV]
theorem valV_miss {k k' : Key} {v : V} {r : List (Key × V)} (h : k' ≠ k) : valV ((k', v) :: r) k = valV r k := by simp [valV, h]
/-- the events of a town as data, agains too -/
def payP (n : Str) (u : Int) : PyData := .tuple [.str "pay", .str n, .int u]
def wordP (w n : Str) : PyData := .tuple [.str w, .str n]
def allEv (ns : List Str) : List PyData :=
  ns.map (wordP "cut") ++ ns.map (wordP "line") ++ ns.flatMap (fun n => [payP n 1, payP n 2]) ++ [.tuple [.str "top", .int 1], .tuple [.str "top", .int 2], .tuple [.str "lose"]] ++ ns.map (wordP "again")
/-- a comprehension over texts whose element is a new tuple -/
theorem lc_td {J : It} {n : Nat} {G : Hp → Prop} {Y : Nat → Hp → V → Hp → Prop} (w : Walk J n G Y) {j : Nat} {te : TE} {σ : L2.St} {H1 : Hp} {D : Addr} {Qd : Hp → Prop} (hD : H1 D = none) (ds : List PyData) (hn : n = ds.length) (hN : n ≤ 1000)
    (hG : ∀ H, Same H1 H → G H) (xs : List V) (hY : ∀ i H x H', Y i H x H' → H' = H ∧ xs[i]? = some x)
    (he : ∀ (i : Nat) (x : V) (d : PyData) (H : Hp) (Q : VK), xs[i]? = some x → ds[i]? = some d → Same H1 H → (∀ v H', Same H H' → Td H' v d → Q v H') → te ((wipe σ [j]).set j (some x)) H Q)
    (hd : ∀ H, Same H1 H → LstD H D ds → Qd H) :
    ∃ W : Nat → Nat → Hp → Prop, (∃ m, W 0 m (upd H1 D (.lst []))) ∧ ∀ i m H, W i m H → (J.stop i H ∧ Qd H) ∨ (J.go i H ∧ ∃ Nx : Hp → Prop, (∀ H', Nx H' → ∃ m', m' < m ∧ W (i + 1) m' H') ∧
      ∀ x H', J.yld i H x H' → gName j x (wipe σ [j]) H' fun σ2 H2 => wipe σ2 [j] = wipe σ [j] ∧ tYes σ2 H2 fun b H3 => if b = true then te σ2 H3 fun y H4 => ∃ acc, H4 D = some (.lst acc) ∧ acc.length < sizeLine ∧ Nx (upd H4 D (.lst (acc ++ [y]))) else Nx H3) := by
  refine lc_it w (fun i H => Same H1 H ∧ LstD H D (ds.take i)) ⟨Same.new hD, [], upd_same, .nil⟩ (fun i H _ e => hG H e.1) (fun i x H H' hi e y => ?_) (fun H e => hd H e.1 (by have e2 := e.2; rw [hn, List.take_length] at e2; exact e2))
  obtain ⟨e2, hx⟩ := hY i H x H' y
  subst e2
  obtain ⟨e1, ys, hy, hys⟩ := e
  refine ⟨wipe1 σ j (some x), ?_⟩
  refine q_yes ?_
  refine iteT ?_
  have hlt : i < ds.length := by omega
  have hdi : ds[i]? = some ds[i] := List.getElem?_eq_getElem hlt
  refine he i x _ _ _ hx hdi e1 fun v H4 e4 t => ⟨ys, e4 _ _ hy, ?_, ?_, ?_⟩
  · rw [hys.len, List.length_take]; exact Nat.lt_of_le_of_lt (show min i ds.length ≤ 1000 by omega) (by decide)
  · intro c o hc
    rw [upd_ne (ne_of_none hc hD)]
    exact e4 _ _ (e1 _ _ hc)
  · refine ⟨ys ++ [v], upd_same, ?_⟩
    rw [List.take_add_one, hdi, Option.toList_some]
    have k : TupKeep H4 (upd H4 D (.lst (ys ++ [v]))) := .lst (e4 _ _ hy)
    exact ((hys.keep (.same e4)).keep k).app (.one (t.keep k))
end Kx
namespace Kx
open PySem PySem.Spec L2
theorem at_maps {α : Type} {l : List α} {f : α → V} {g : α → PyData} {i : Nat} {x : V} {d : PyData} (hx : (l.map f)[i]? = some x) (hd : (l.map g)[i]? = some d) : ∃ a, l[i]? = some a ∧ x = f a ∧ d = g a := by
  rw [List.getElem?_map] at hx hd
  cases e : l[i]? with
  | none => rw [e] at hx; cases hx
  | some a => rw [e] at hx hd; cases hx; cases hd; exact ⟨a, rfl, rfl, rfl⟩
theorem LstD.len {H : Hp} {a : Addr} {ds : List PyData} (h : LstD H a ds) : ∃ xs, H a = some (.lst xs) ∧ xs.length = ds.length ∧ TdAll H xs ds := let ⟨xs, e, t⟩ := h; ⟨xs, e, t.len, t⟩
theorem q_cat {H : Hp} {l b : Addr} {ds es : List PyData} {Q : VK} (h1 : LstD H l ds) (h2 : LstD H b es) (hl : ds.length + es.length ≤ 1000) (q : ∀ p H', H p = none → Same H H' → LstD H' p (ds ++ es) → Q (.ref p) H') : rCat (.ref l) (.ref b) H Q := by
  obtain ⟨xs, e1, l1, t1⟩ := h1.len
  obtain ⟨ys, e2, l2, t2⟩ := h2.len
  refine ⟨l, b, xs, ys, rfl, rfl, e1, e2, ?_, fun p hp => q p _ hp (Same.new hp) ⟨_, upd_same, (t1.app t2).keep (.new hp)⟩⟩
  rw [l1, l2]
  exact Nat.le_trans hl (by decide)
theorem LstD.mk {H : Hp} {a : Addr} {xs : List V} {ds : List PyData} (h : H a = some (.lst xs)) (t : TdAll H xs ds) : LstD H a ds := ⟨xs, h, t⟩
end Kx
namespace L2
theorem Same.free' {H H1 H2 : Hp} {l : PySem.Addr} (_ : Same H H2) (h : H1 l = none) (e : Same H H1) : H l = none := e.free h
end L2
namespace Kx
theorem flat2_len {α β : Type} (f g : α → β) : ∀ z : List α, (z.flatMap fun n => [f n, g n]).length = 2 * z.length
  | [] => rfl
  | a :: r => by
    simp only [List.flatMap_cons, List.length_append, flat2_len f g r, List.length_cons, List.length_nil]
    omega
end Kx

namespace Kx
open PySem PySem.Spec L2
theorem Same.mut {H0 H : Hp} {l : Addr} {o : HO} (e : Same H0 H) (h : H0 l = none) : Same H0 (upd H l o) := fun c u hc => by rw [upd_ne (ne_of_none hc h)]; exact e c u hc
theorem wipe2 (σ : L2.St) {j j1 : Nat} (h : j ≠ j1) (x : Option V) : wipe ((wipe σ [j, j1]).set j x) [j, j1] = wipe σ [j, j1] := by
  show ((((σ.set j1 none).set j none).set j x).set j1 none).set j none = (σ.set j1 none).set j none
  rw [List.set_set, List.set_comm _ _ h, List.set_set, List.set_set]
theorem LstD.push {H H1 : Hp} {D : Addr} {ds : List PyData} {v : V} {d : PyData} (h : LstD H D ds) (e : Same H H1) (t : Td H1 v d) (hl : ds.length ≤ 1000) : ∃ acc, H1 D = some (.lst acc) ∧ acc.length < sizeLine ∧ LstD (upd H1 D (.lst (acc ++ [v]))) D (ds ++ [d]) := by
  obtain ⟨ys, hy, hys⟩ := h
  refine ⟨ys, e _ _ hy, ?_, ys ++ [v], upd_same, ?_⟩
  · rw [hys.len]; exact Nat.lt_of_le_of_lt hl (by decide)
  · have k : TupKeep H1 (upd H1 D (.lst (ys ++ [v]))) := .lst (e _ _ hy)
    exact ((hys.keep (.same e)).keep k).app (.one (t.keep k))
/-- a comprehension of two clauses whose elements are new tuples, the second clause with a test -/
theorem lc2_td {J J1 : It} {n n1 : Nat} {G G1 : Hp → Prop} {Y Y1 : Nat → Hp → V → Hp → Prop} (w : Walk J n G Y) (w1 : Walk J1 n1 G1 Y1) {j j1 : Nat} {te : TE} {tt1 : TT} {wi1 : TI} {σ : L2.St} {H1 : Hp} {D : Addr} {Qd : Hp → Prop} (hj : j ≠ j1) (hD : H1 D = none)
    (xs ys : List V) (dss : List (List (Option PyData))) (hn : n = dss.length) (hn1 : ∀ ds ∈ dss, ds.length = n1) (hN : n * n1 ≤ 1000) (hG : ∀ H, Same H1 H → G H) (hG1 : ∀ H, Same H1 H → G1 H)
    (hY : ∀ i H x H', Y i H x H' → H' = H ∧ xs[i]? = some x) (hY1 : ∀ i H x H', Y1 i H x H' → H' = H ∧ ys[i]? = some x)
    (hw1 : ∀ (i : Nat) (x : V) (H : Hp) (R : It → Hp → Prop), xs[i]? = some x → Same H1 H → R J1 H → wi1 ((wipe σ [j, j1]).set j (some x)) H R)
    (ht : ∀ (i i1 : Nat) (x y : V) (ds : List (Option PyData)) (d : Option PyData) (H : Hp) (Q : Bool → Hp → Prop), xs[i]? = some x → ys[i1]? = some y → dss[i]? = some ds → ds[i1]? = some d → Same H1 H → (∀ H', Same H H' → Q d.isSome H') →
      tt1 ((wipe ((wipe σ [j, j1]).set j (some x)) [j1]).set j1 (some y)) H Q)
    (he : ∀ (i i1 : Nat) (x y : V) (ds : List (Option PyData)) (d : PyData) (H : Hp) (Q : VK), xs[i]? = some x → ys[i1]? = some y → dss[i]? = some ds → ds[i1]? = some (some d) → Same H1 H → (∀ v H', Same H H' → Td H' v d → Q v H') →
      te ((wipe ((wipe σ [j, j1]).set j (some x)) [j1]).set j1 (some y)) H Q)
    (hd : ∀ H, Same H1 H → LstD H D (dss.flatten.filterMap id) → Qd H) :
    ∃ W : Nat → Nat → Hp → Prop, (∃ m, W 0 m (upd H1 D (.lst []))) ∧ ∀ i m H, W i m H → (J.stop i H ∧ Qd H) ∨ (J.go i H ∧ ∃ Nx : Hp → Prop, (∀ H', Nx H' → ∃ m', m' < m ∧ W (i + 1) m' H') ∧
      ∀ x H', J.yld i H x H' → gName j x (wipe σ [j, j1]) H' fun σ2 H2 => wipe σ2 [j, j1] = wipe σ [j, j1] ∧ tYes σ2 H2 fun b H3 => if b = true then wi1 σ2 H3 fun J1 H4 => ∃ W1 : Nat → Nat → Hp → Prop, (∃ m, W1 0 m H4) ∧ ∀ j k H, W1 j k H →
        (J1.stop j H ∧ Nx H) ∨ (J1.go j H ∧ ∃ Nx1 : Hp → Prop, (∀ H', Nx1 H' → ∃ k', k' < k ∧ W1 (j + 1) k' H') ∧ ∀ x H', J1.yld j H x H' → gName j1 x (wipe σ2 [j1]) H' fun σ3 H5 => wipe σ3 [j1] = wipe σ2 [j1] ∧ tt1 σ3 H5 fun b H6 =>
          if b = true then te σ3 H6 fun y H7 => ∃ acc, H7 D = some (.lst acc) ∧ acc.length < sizeLine ∧ Nx1 (upd H7 D (.lst (acc ++ [y]))) else Nx1 H6) else Nx H3) := by
  have hlen : ∀ (a : List (Option PyData)), (a.filterMap id).length ≤ a.length := fun a => List.length_filterMap_le _ _
  refine ⟨fun i m H => m = n - i ∧ i ≤ n ∧ Same H1 H ∧ LstD H D ((dss.take i).flatten.filterMap id), ⟨n, by simp, Nat.zero_le _, Same.new hD, [], upd_same, .nil⟩, ?_⟩
  rintro i m H ⟨rfl, hi, e, dl⟩
  by_cases hle : n ≤ i
  · have ei : i = n := by omega
    subst ei
    refine .inl ⟨w.stops H (hG H e), hd H e ?_⟩
    rw [hn, List.take_length] at dl
    exact dl
  have hlt : i < n := by omega
  refine .inr ⟨w.goes i H hlt (hG H e), fun H' => i + 1 ≤ n ∧ Same H1 H' ∧ LstD H' D ((dss.take (i + 1)).flatten.filterMap id), fun H' p => ⟨n - (i + 1), by omega, rfl, p⟩, fun x H' y => ?_⟩
  obtain ⟨e2, hx⟩ := hY i H x H' (w.yields i H x H' hlt (hG H e) y)
  subst e2
  refine ⟨wipe2 σ hj (some x), ?_⟩
  refine q_yes ?_
  refine iteT ?_
  refine hw1 i x _ _ hx e ?_
  have hid : i < dss.length := by omega
  have hds : dss[i]? = some dss[i] := List.getElem?_eq_getElem hid
  generalize dss[i] = ds at hds
  have hdl : ds.length = n1 := hn1 ds (List.mem_of_getElem? hds)
  have hfl : ∀ q : Nat, ((dss.take i).flatten ++ ds.take q).length ≤ 1000 := by
    intro q
    rw [List.length_append, List.length_flatten, List.length_take]
    have h1 : ((dss.take i).map List.length).sum = i * n1 := by
      have h2 : (dss.take i).map List.length = List.replicate i n1 := by
        refine List.ext_getElem? fun z => ?_
        rw [List.getElem?_map, List.getElem?_take, List.getElem?_replicate]
        split
        · rename_i hz
          have hz2 : z < dss.length := by omega
          rw [List.getElem?_eq_getElem hz2, Option.map_some, hn1 _ (List.getElem_mem hz2)]
        · rfl
      rw [h2]
      simp
    rw [h1]
    have h3 : i * n1 + n1 ≤ n * n1 := by
      have : (i + 1) * n1 ≤ n * n1 := Nat.mul_le_mul_right _ hlt
      rw [Nat.succ_mul] at this
      exact this
    omega
  refine ⟨fun i1 k H => k = n1 - i1 ∧ i1 ≤ n1 ∧ Same H1 H ∧ LstD H D (((dss.take i).flatten ++ ds.take i1).filterMap id), ⟨n1, by simp, Nat.zero_le _, e, by simpa using dl⟩, ?_⟩
  rintro i1 k H' ⟨rfl, hi1, e1, dl1⟩
  by_cases hle1 : n1 ≤ i1
  · have ei : i1 = n1 := by omega
    subst ei
    refine .inl ⟨w1.stops H' (hG1 H' e1), hlt, e1, ?_⟩
    rw [← hdl, List.take_length] at dl1
    rw [List.take_add_one, hds, Option.toList_some, List.flatten_append, List.flatten_cons, List.flatten_nil, List.append_nil]
    exact dl1
  have hlt1 : i1 < n1 := by omega
  refine .inr ⟨w1.goes i1 H' hlt1 (hG1 H' e1), fun H' => i1 + 1 ≤ n1 ∧ Same H1 H' ∧ LstD H' D (((dss.take i).flatten ++ ds.take (i1 + 1)).filterMap id), fun H' p => ⟨n1 - (i1 + 1), by omega, rfl, p⟩, fun z H'' y => ?_⟩
  obtain ⟨e3, hz⟩ := hY1 i1 H' z H'' (w1.yields i1 H' z H'' hlt1 (hG1 H' e1) y)
  subst e3
  refine ⟨wipe1 _ j1 (some z), ?_⟩
  have hid1 : i1 < ds.length := by omega
  have hd1 : ds[i1]? = some ds[i1] := List.getElem?_eq_getElem hid1
  generalize ds[i1] = d at hd1
  have step : (((dss.take i).flatten ++ ds.take (i1 + 1)).filterMap id) = (((dss.take i).flatten ++ ds.take i1).filterMap id) ++ ([d].filterMap id) := by
    rw [List.take_add_one, hd1, Option.toList_some, ← List.append_assoc, List.filterMap_append]
  refine ht i i1 x z ds d _ _ hx hz hds hd1 e1 fun H2 e2 => ?_
  cases d with
  | none =>
    refine iteF ?_
    refine ⟨hlt1, e1.trans e2, ?_⟩
    rw [step]
    simpa using dl1.same e2
  | some d =>
    refine iteT ?_
    refine he i i1 x z ds d _ _ hx hz hds hd1 (e1.trans e2) fun v H4 e4 t => ?_
    obtain ⟨acc, h1, h2, h3⟩ := (dl1.same e2).push e4 t (Nat.le_trans (hlen _) (hfl i1))
    refine ⟨acc, h1, h2, hlt1, Same.mut ((e1.trans e2).trans e4) hD, ?_⟩
    rw [step]
    exact h3
theorem q_lc2 {wi wi1 : TI} {g g1 : TG} {tt tt1 : TT} {te : TE} {vs vs1 : List Nat} {σ : L2.St} {H : Hp} {Q : VK}
    (h : wi σ H fun J H1 => ∀ D, H1 D = none → ∃ W : Nat → Nat → Hp → Prop, (∃ m, W 0 m (upd H1 D (.lst []))) ∧ ∀ i m H, W i m H → (J.stop i H ∧ Q (.ref D) H) ∨ (J.go i H ∧ ∃ Nx : Hp → Prop, (∀ H', Nx H' → ∃ m', m' < m ∧ W (i + 1) m' H') ∧
      ∀ x H', J.yld i H x H' → g x (wipe σ vs) H' fun σ2 H2 => wipe σ2 vs = wipe σ vs ∧ tt σ2 H2 fun b H3 => if b = true then wi1 σ2 H3 fun J1 H4 => ∃ W1 : Nat → Nat → Hp → Prop, (∃ m, W1 0 m H4) ∧ ∀ j k H, W1 j k H →
        (J1.stop j H ∧ Nx H) ∨ (J1.go j H ∧ ∃ Nx1 : Hp → Prop, (∀ H', Nx1 H' → ∃ k', k' < k ∧ W1 (j + 1) k' H') ∧ ∀ x H', J1.yld j H x H' → g1 x (wipe σ2 vs1) H' fun σ3 H5 => wipe σ3 vs1 = wipe σ2 vs1 ∧ tt1 σ3 H5 fun b H6 =>
          if b = true then te σ3 H6 fun y H7 => ∃ acc, H7 D = some (.lst acc) ∧ acc.length < sizeLine ∧ Nx1 (upd H7 D (.lst (acc ++ [y]))) else Nx1 H6) else Nx H3)) : tLc2 wi g tt wi1 g1 tt1 te vs vs1 σ H Q := h
end Kx
namespace Kx
open PySem PySem.Spec L2
theorem Same.but0 {H H1 H2 : Hp} {p : Addr} (e : Same H H1) (hp : H p = none) (b : But p H1 H2) : Same H H2 := Same.but e hp b
theorem q_ext {H : Hp} {l b : Addr} {ds es : List PyData} {Q : VK} (h1 : LstD H l ds) (h2 : LstD H b es) (hl : ds.length + es.length ≤ 1000) (q : ∀ H', But l H H' → TupKeep H H' → LstD H' l (ds ++ es) → Q .non H') : rExtend (.ref l) [.ref b] H Q := by
  obtain ⟨xs, e1, l1, t1⟩ := h1.len
  obtain ⟨ys, e2, l2, t2⟩ := h2.len
  refine ⟨l, b, xs, ys, rfl, rfl, e1, e2, ?_, q _ But.upd (.lst e1) ⟨_, upd_same, (t1.app t2).keep (.lst e1)⟩⟩
  rw [l1, l2]
  exact Nat.le_trans hl (by decide)
theorem q_app {H : Hp} {l : Addr} {ds : List PyData} {v : V} {d : PyData} {Q : VK} (h1 : LstD H l ds) (h2 : Td H v d) (hl : ds.length ≤ 1000) (q : ∀ H', But l H H' → TupKeep H H' → LstD H' l (ds ++ [d]) → Q .non H') : rAppend (.ref l) [v] H Q := by
  obtain ⟨xs, e1, l1, t1⟩ := h1.len
  refine ⟨l, xs, v, rfl, rfl, e1, ?_, q _ But.upd (.lst e1) ⟨_, upd_same, (t1.app (.one h2)).keep (.lst e1)⟩⟩
  rw [l1]
  exact Nat.lt_of_le_of_lt hl (by decide)
end Kx
namespace Kx
open PySem PySem.Spec L2
section
variable {K : PySem.W.Frag} {σ : L2.St} {H : Hp} {Q : VK} {ta : TE} {t tk : TA} {C : Addr} {m : Str} {sp : Sp} {dvs : List V} {E : XK}
theorem q_meth (h : ta σ H fun x H1 => ∃ a dx fs, x = .ref a ∧ H1 a = some (.ins C dx fs) ∧ fs.lookup m = none ∧ t σ H1 fun vs H2 => sp (x :: (vs ++ dvs)) H2 Q E) : tMeth C m sp dvs E ta t σ H Q := h
theorem q_bm {T : String} {r : V → List V → Hp → VK → Prop} (h : ta σ H fun x H1 => tyV K T x H1 ∧ t σ H1 fun xs H2 => r x xs H2 Q) : tBM K T r ta t σ H Q := h
theorem q_make (h : t σ H fun vs H1 => ∀ x dx, H1 x = none → H1 dx = none → dx ≠ x → sp (.ref x :: (vs ++ dvs)) (upd (upd H1 dx (.own x)) x (.ins C dx [])) (fun v H2 => v = .non ∧ Q (.ref x) H2) E) : tMake C sp dvs E t σ H Q := h
theorem q_makeK {n k : Nat} {gV : List V → List V → List V} (h : t σ H fun vs H1 => tk σ H1 fun zs H2 => vs.length = n ∧ zs.length = k ∧ ∀ x dx, H2 x = none → H2 dx = none → dx ≠ x → sp (gV (.ref x :: vs) zs) (upd (upd H2 dx (.own x)) x (.ins C dx [])) (fun v H3 => v = .non ∧ Q (.ref x) H3) E) : tMakeK C n k sp gV E t tk σ H Q := h
end
end Kx

namespace Kx
open PySem PySem.Spec L2
def isUnits (x : V) : Bool := decide (x = .int 1) || decide (x = .int 2)
def inNames (ns : List Str) : V → Bool
  | .str s => decide (s ∈ ns)
  | _ => false
theorem inNames_not {ns : List Str} {x : V} (h : ∀ s, x ≠ .str s) : inNames ns x = false := by
  cases x <;> first | rfl | exact absurd rfl (h _)
/-- an event of a town with these tills, by its items -/
def evT (ns : List Str) : List V → Bool
  | [.str w] => decide (w = "lose")
  | [.str w, y] => if w = "top" then isUnits y else (decide (w = "cut") || decide (w = "line") || decide (w = "again")) && inNames ns y
  | [.str w, y, u] => decide (w = "pay") && inNames ns y && isUnits u
  | _ => false
def isEvH (ns : List Str) (H : Hp) : V → Bool
  | .ref a => match H a with
    | some (.tup xs) => evT ns xs
    | _ => false
  | _ => false
theorem isEvH_tup {ns : List Str} {H : Hp} {a : Addr} {xs : List V} (h : H a = some (.tup xs)) : isEvH ns H (.ref a) = evT ns xs := by simp [isEvH, h]
theorem isEvH_no {ns : List Str} {H : Hp} {x : V} (ha : Any H x) (h : (kindOf H x == "tuple") = false) : isEvH ns H x = false := by
  cases ha with
  | tup e => simp [kindOf, e] at h
  | lst e => simp [isEvH, e]
  | dK e => simp [isEvH, e]
  | _ => rfl
/-- what a law asks about: a value, the items of a tuple -/
def AnyE (H : Hp) (v : V) : Prop := Any H v ∧ ∀ a xs, v = .ref a → H a = some (.tup xs) → ∀ y ∈ xs, Any H y ∧ ∀ s, y = .str s → s.length ≤ 100000
theorem AnyE.same {H H' : Hp} {v : V} (h : AnyE H v) (e : Same H H') : AnyE H' v := by
  refine ⟨h.1.same e, fun a xs ha hx y hy => ?_⟩
  subst ha
  obtain ⟨o, ho⟩ := h.1.ref
  have h1 := e _ _ ho
  rw [hx] at h1
  cases h1
  exact ⟨(h.2 a xs rfl ho y hy).1.same e, (h.2 a xs rfl ho y hy).2⟩
theorem isEvH_same {ns : List Str} {H H' : Hp} {v : V} (h : Any H v) (e : Same H H') : isEvH ns H' v = isEvH ns H v := by
  cases h with
  | lst h => simp [isEvH, h, e _ _ h]
  | tup h => simp [isEvH, h, e _ _ h]
  | dK h => simp [isEvH, h, e _ _ h]
  | _ => rfl
theorem AnyE.flat {H : Hp} {v : V} (h : Any H v) (hr : ∀ a, v ≠ .ref a) : AnyE H v := ⟨h, fun a _ e => absurd e (hr a)⟩
theorem AnyE.tup {H : Hp} {a : Addr} {xs : List V} (h : H a = some (.tup xs)) (hx : ∀ y ∈ xs, Any H y ∧ ∀ s, y = .str s → s.length ≤ 100000) : AnyE H (.ref a) := ⟨.tup h, fun b ys e hb => by cases e; rw [h] at hb; cases hb; exact hx⟩
theorem AnyE.lst {H : Hp} {a : Addr} {xs : List V} (h : H a = some (.lst xs)) : AnyE H (.ref a) := ⟨.lst h, fun b ys e hb => by cases e; rw [h] at hb; cases hb⟩
theorem AnyE.dK {H : Hp} {a : Addr} {xs : List (Key × V)} (h : H a = some (.dK xs)) : AnyE H (.ref a) := ⟨.dK h, fun b ys e hb => by cases e; rw [h] at hb; cases hb⟩
theorem TownAt.same {cT cC a : Addr} {H H' : Hp} {M : ModelD} (h : TownAt cT cC H a M) (e : Same H H') : TownAt cT cC H' a M := by
  obtain ⟨dx, tt, bn, lk, mm, rs, h1, h2, h3, h4, h5, h6⟩ := h.ex
  exact ⟨h.good, dx, tt, bn, lk, mm, rs, e _ _ h1, e _ _ h2, h3.imp fun v t ⟨x, ex, q⟩ => ⟨x, ex, q.same e⟩, e _ _ h4, h5.keep (.same e) _ _, h6.keep (.same e) _ _⟩
theorem valV_zip {α : Type} (f : Str → Key) (hf : ∀ a b, f a = f b → a = b) : ∀ (ns : List Str) (rs : List V) (s : Str), ns.length = rs.length → (valV ((ns.zip rs).map fun p => (f p.1, p.2)) (f s)).isSome = decide (s ∈ ns)
  | [], [], s, _ => by simp [valV]
  | n :: ns, r :: rs, s, h => by
    rw [List.zip_cons_cons, List.map_cons]
    by_cases e : n = s
    · subst e
      rw [valV_hit]
      simp
    · rw [valV_miss (fun q => e (hf _ _ q)), valV_zip (α := α) f hf ns rs s (by simpa using h)]
      have : decide (s ∈ n :: ns) = decide (s ∈ ns) := by
        simp [List.mem_cons, Ne.symm e]
      rw [this]
  | [], _ :: _, _, h => by cases h
  | _ :: _, [], _, h => by cases h
theorem names_len (M : ModelD) : M.names.length = M.tills.length := by unfold ModelD.names; rw [List.length_map]
theorem Good.name {M : ModelD} (g : Good M) {s : Str} (h : s ∈ M.names) : isNameS s = true := by
  unfold ModelD.names at h
  obtain ⟨t, ht, rfl⟩ := List.mem_map.mp h
  exact g.nm t ht
end Kx
namespace Kx
open PySem PySem.Spec L2
theorem evT_long {ns : List Str} {xs : List V} (h : 3 < xs.length) : evT ns xs = false := by
  unfold evT
  split <;> first | rfl | (simp at h)
theorem evT_nstr {ns : List Str} {y : V} {r : List V} (h : ∀ s, y ≠ .str s) : evT ns (y :: r) = false := by
  unfold evT
  split
  · rename_i e; injection e with e1 _; exact absurd e1 (h _)
  · rename_i e; injection e with e1 _; exact absurd e1 (h _)
  · rename_i e; injection e with e1 _; exact absurd e1 (h _)
  · rfl
end Kx
namespace Kx
open PySem PySem.Spec L2
theorem q_iEnum {K : PySem.W.Frag} {ta : TA} {σ : L2.St} {H : Hp} {R : It → Hp → Prop} (h : ta σ H fun vs H1 => ∃ a xs, vs = [.ref a] ∧ SqL K H1 a xs ∧ R (Ite K a) H1) : iEnum K ta σ H R := h
/-- a dict that tells which keys were seen -/
def seenK {κ : Type} (ks : List κ) : List (κ × V) := ks.map fun k => (k, .bl true)
theorem seenK_get {κ : Type} [DecidableEq κ] : ∀ (ks : List κ) (k : κ), k ∉ ks → valV (seenK ks) k = none
  | [], _, _ => rfl
  | a :: r, k, h => by
    have h1 : ¬ a = k := fun e => h (by rw [e]; exact List.mem_cons_self)
    have h2 : valV (seenK r) k = none := seenK_get r k (fun e => h (List.mem_cons_of_mem _ e))
    simpa [seenK, valV, h1] using h2
theorem seenK_put {κ : Type} [DecidableEq κ] (ks : List κ) (k : κ) (h : k ∉ ks) : putK (seenK ks) k (.bl true) = seenK (ks ++ [k]) := by
  rw [putK_new _ (seenK_get ks k h)]
  simp [seenK]
theorem nodup_at {α : Type} {l : List α} (h : l.Nodup) {i : Nat} {x : α} (e : l[i]? = some x) : x ∉ l.take i := by
  intro hx
  obtain ⟨j, hj, hj2⟩ := List.mem_iff_getElem.mp hx
  rw [List.length_take] at hj
  rw [List.getElem_take] at hj2
  have h2 : l[j]? = some x := by rw [List.getElem?_eq_getElem (by omega), hj2]
  have := nd_ix h h2 e
  omega
theorem take_snoc {α : Type} {l : List α} {i : Nat} {x : α} (e : l[i]? = some x) : l.take (i + 1) = l.take i ++ [x] := by
  rw [List.take_add_one, e, Option.toList_some]
/-- a memory's tuple -/
def memV : MemD → List V
  | .nothing => [.str "nothing"]
  | .times n => [.str "times", .int n]
  | .sum n => [.str "sum", .int n]
theorem memV_of {H : Hp} {a : Addr} {m : MemD} (h : Td H (.ref a) (memP m)) : H a = some (.tup (memV m)) := by
  cases m with
  | nothing =>
    cases h with
    | tup h hs => cases hs with | cons a b => cases a; cases b; exact h
  | times n =>
    cases h with
    | tup h hs => cases hs with | cons a b => cases a; cases b with | cons a b => cases a; cases b; exact h
  | sum n =>
    cases h with
    | tup h hs => cases hs with | cons a b => cases a; cases b with | cons a b => cases a; cases b; exact h
def MemOk : MemD → Prop
  | .nothing => True
  | .times n => 0 ≤ n ∧ n ≤ 9
  | .sum n => 0 ≤ n ∧ n ≤ 9
theorem memV_ok {m : MemD} (h : MemOk m) : isMemT (memV m) = true := by
  cases m with
  | nothing => decide +kernel
  | times n =>
    have e : isIntTo 9 (.int n) = true := by show (decide _ && decide _) = true; rw [decide_eq_true h.1, decide_eq_true h.2]; rfl
    exact (congrArg (fun b => (isWordV "times" (.str "times") || isWordV "sum" (.str "times")) && b) e).trans (by decide +kernel)
  | sum n =>
    have e : isIntTo 9 (.int n) = true := by show (decide _ && decide _) = true; rw [decide_eq_true h.1, decide_eq_true h.2]; rfl
    exact (congrArg (fun b => (isWordV "times" (.str "sum") || isWordV "sum" (.str "sum")) && b) e).trans (by decide +kernel)
theorem memV_any {H : Hp} {m : MemD} : ∀ v ∈ memV m, Any H v := by
  cases m <;> intro v hv <;> simp [memV] at hv
  · subst hv; exact .str _
  · rcases hv with rfl | rfl
    · exact .str _
    · exact .int _
  · rcases hv with rfl | rfl
    · exact .str _
    · exact .int _
theorem intTo_of {i t : Int} (h0 : 0 ≤ i) (h1 : i ≤ t) : isIntTo t (.int i) = true := by show (decide _ && decide _) = true; rw [decide_eq_true h0, decide_eq_true h1]; rfl
theorem inV_strs (s : Str) (ns : List Str) : inV (.str s) (ns.map V.str) = decide (s ∈ ns) := by
  unfold inV
  induction ns with
  | nil => rfl
  | cons n r ih =>
    rw [List.map_cons, List.any_cons, ih]
    show ((n == s) || _) = _
    by_cases e : n = s
    · subst e; simp
    · have : (n == s) = false := by simpa using e
      rw [this, Bool.false_or]
      simp [List.mem_cons, Ne.symm e]
theorem flat_strsV (ns : List Str) : (ns.map V.str).all flatV = true := by
  rw [List.all_map, List.all_eq_true]
  intro x _
  rfl
end Kx
namespace Kx
open PySem PySem.Spec L2
theorem q_dnewT {σ : L2.St} {H : Hp} {Q : VK} (q : ∀ p, H p = none → Q (.ref p) (upd H p (.dT []))) : tDNewT σ H Q := q
end Kx

namespace Kx
open PySem PySem.Spec L2 PyProof.Rows
/-! ### links: their order, whether two are equal -/
def leS (a b : Str) : Prop := a.cps.toList ≤ b.cps.toList
theorem risingS_pw : ∀ (xs : List Str) (p : Str), risingS p xs = true → (p :: xs).Pairwise leS
  | [], p, _ => by simp
  | x :: r, p, h => by
    unfold risingS at h
    rw [Bool.and_eq_true, ltCps_eq] at h
    have h1 : leS p x := by
      show ¬ x.cps.toList < p.cps.toList
      simpa using h.1
    have ih := risingS_pw r x h.2
    refine List.Pairwise.cons (fun y hy => ?_) ih
    rcases List.mem_cons.mp hy with rfl | hy
    · exact h1
    · exact List.le_trans h1 (List.rel_of_pairwise_cons ih hy)
theorem sortedS_pw {xs : List Str} (h : sortedS xs = true) : xs.Pairwise leS := by
  cases xs with
  | nil => simp
  | cons x r => exact risingS_pw r x h
theorem sorted_one {xs ys : List Str} (hx : sortedS xs = true) (hy : sortedS ys = true) (h : xs.Perm ys) : xs = ys :=
  List.Perm.eq_of_pairwise (fun _ _ _ _ h1 h2 => str_ext (List.le_antisymm h1 h2)) (sortedS_pw hx) (sortedS_pw hy) h
def okL (k : Str × Str) : Prop := PyData.strOk k.1 = true ∧ PyData.strOk k.2 = true
theorem linkP_lay {k : Str × Str} (h : okL k) : (linkP k).canLay0 = true := by
  obtain ⟨h1, h2⟩ := h
  simp [linkP, PyData.canLay0, PyData.canLayAll0, h1, h2]
theorem linkP_depth (k : Str × Str) : (linkP k).depth = 1 := by simp [linkP, PyData.depth, PyData.depthAll]
theorem linkPs_lay : ∀ zs : List (Str × Str), (∀ k ∈ zs, okL k) → PyData.canLayAll0 (zs.map linkP) = true
  | [], _ => by simp [PyData.canLayAll0]
  | z :: zs, h => by simp [PyData.canLayAll0, linkP_lay (h z (by simp)), linkPs_lay zs (fun k hk => h k (by simp [hk]))]
theorem linkPs_depth : ∀ zs : List (Str × Str), PyData.depthAll (zs.map linkP) ≤ 2
  | [] => by simp [PyData.depthAll]
  | z :: zs => by
    have h1 := linkPs_depth zs
    have h2 := linkP_depth z
    simp only [List.map_cons, PyData.depthAll]
    omega
theorem linkP_shaped {z : Str × Str} (k : okL z) : SeqAt.shaped (linkP z) = true := by
  have h := linkP_depth z
  show ((linkP z).canLay0 && decide ((linkP z).depth ≤ 64)) = true
  rw [Bool.and_eq_true]
  exact ⟨linkP_lay k, decide_eq_true (by omega)⟩
theorem linkPs_shaped {zs : List (Str × Str)} (k : ∀ z ∈ zs, okL z) : SeqAt.shaped (.list (zs.map linkP)) = true := by
  have h1 := linkPs_depth zs
  have h2 : PyData.depth (.list (zs.map linkP)) ≤ 64 := by
    simp only [PyData.depth]
    omega
  show (PyData.canLay0 (.list (zs.map linkP)) && decide (PyData.depth (.list (zs.map linkP)) ≤ 64)) = true
  rw [Bool.and_eq_true]
  exact ⟨by simp only [PyData.canLay0]; exact linkPs_lay zs k, decide_eq_true h2⟩
theorem linkP_eqv (z w : Str × Str) : PyData.eqv (linkP z) (linkP w) = (z == w) := by
  obtain ⟨a, b⟩ := z
  obtain ⟨a', b'⟩ := w
  have e : PyData.eqv (linkP (a, b)) (linkP (a', b')) = ((a == a') && ((b == b') && true)) := by simp only [linkP, PyData.eqv, PyData.eqvAll]
  rw [e, Bool.and_true]
  rfl
theorem links_any (ks : List (Str × Str)) (l : Str × Str) : ((ks.map linkP).any fun z => PyData.eqv z (linkP l)) = ks.contains l := by
  induction ks with
  | nil => rfl
  | cons k r ih =>
    rw [List.map_cons, List.any_cons, ih, linkP_eqv, List.contains_cons]
    congr 1
    exact Bool.beq_comm
def ascO (ord : List Str) (ks : List (Str × Str)) : List (List (Option PyData)) := ord.map fun a => ord.map fun b => if ks.contains (a, b) = true then some (linkP (a, b)) else none
theorem asc_flat (ord : List Str) (ks : List (Str × Str)) : (ascO ord ks).flatten.filterMap id = (ascL ord ks).map linkP := by
  unfold ascO ascL
  have inner : ∀ (a : Str) (o2 : List Str), (o2.map fun b => if ks.contains (a, b) = true then some (linkP (a, b)) else none).filterMap id = ((o2.map fun b => (a, b)).filter fun l => ks.contains l).map linkP := by
    intro a o2
    induction o2 with
    | nil => rfl
    | cons b r ih =>
      rw [List.map_cons, List.map_cons]
      by_cases h : ks.contains (a, b) = true
      · rw [if_pos h, List.filter_cons_of_pos h, List.map_cons, List.filterMap_cons_some (by rfl), ih]
      · rw [if_neg h, List.filter_cons_of_neg h, List.filterMap_cons_none (by rfl), ih]
  have outer : ∀ o1 : List Str, (o1.map fun a => ord.map fun b => if ks.contains (a, b) = true then some (linkP (a, b)) else none).flatten.filterMap id = (o1.flatMap fun a => (ord.map fun b => (a, b)).filter fun l => ks.contains l).map linkP := by
    intro o1
    induction o1 with
    | nil => rfl
    | cons a r ih => rw [List.map_cons, List.flatten_cons, List.filterMap_append, ih, inner, List.flatMap_cons, List.map_append]
  exact outer ord
theorem q_sortedS {K : PySem.W.Frag} {H : Hp} {a : Addr} {xs : List Str} {Q : VK} (h : SqL K H a (xs.map V.str)) (hl : xs.length < 64) (q : ∀ (ys : List Str) (p : Addr), ys.Perm xs → sortedS ys = true → H p = none → Q (.ref p) (upd H p (.lst (ys.map V.str)))) : rSortedS K [.ref a] H Q := ⟨a, xs, rfl, h, hl, q⟩
theorem q_tupOf {K : PySem.W.Frag} {H : Hp} {a : Addr} {ys : List V} {Q : VK} (h : SqL K H a ys) (q : ∀ l, H l = none → Q (.ref l) (upd H l (.tup ys))) : rTupOf K [.ref a] H Q := ⟨a, ys, rfl, .inl ⟨h, q⟩⟩
theorem at_maps1 {α : Type} {f : α → V} {l : List α} {i : Nat} {x : V} (h : (l.map f)[i]? = some x) : ∃ a, l[i]? = some a ∧ x = f a := by
  rw [List.getElem?_map] at h
  cases e : l[i]? with
  | none => rw [e] at h; cases h
  | some a => rw [e] at h; cases h; exact ⟨a, rfl, rfl⟩
theorem q_dc {wi : TI} {g : TG} {tt : TT} {tk tv : TE} {vs : List Nat} {σ : L2.St} {H : Hp} {Q : VK}
    (h : wi σ H fun J H1 => ∀ D, H1 D = none → ∃ W : Nat → Nat → Hp → Prop, (∃ m, W 0 m (upd H1 D (.dK []))) ∧ ∀ i m H, W i m H →
      (J.stop i H ∧ Q (.ref D) H) ∨ (J.go i H ∧ ∃ Nx : Hp → Prop, (∀ H', Nx H' → ∃ m', m' < m ∧ W (i + 1) m' H') ∧ ∀ x H', J.yld i H x H' → g x (wipe σ vs) H' fun σ2 H2 => wipe σ2 vs = wipe σ vs ∧ tt σ2 H2 fun b H3 =>
        if b = true then tk σ2 H3 fun y H4 => tv σ2 H4 fun z H5 => ∃ kvs k, y = kV k ∧ H5 D = some (.dK kvs) ∧ kvs.length < sizeLine ∧ Nx (upd H5 D (.dK (putK kvs k z))) else Nx H3)) : tDc wi g tt tk tv vs σ H Q := h
theorem valV_none {ks : List Key} {vs : List V} {k : Key} (h : k ∉ ks) : valV (ks.zip vs) k = none := by
  induction ks generalizing vs with
  | nil => rfl
  | cons a r ih =>
    cases vs with
    | nil => rfl
    | cons v vs =>
      rw [List.zip_cons_cons, valV_miss (fun e => h (by rw [e]; exact List.mem_cons_self))]
      exact ih (fun e => h (List.mem_cons_of_mem _ e))
theorem zip_take {α β : Type} : ∀ (as : List α) (bs : List β) (i : Nat), (as.zip bs).take i = (as.take i).zip (bs.take i)
  | [], _, i => by simp
  | _ :: _, [], i => by simp
  | a :: as, b :: bs, 0 => rfl
  | a :: as, b :: bs, i + 1 => by rw [List.zip_cons_cons, List.take_succ_cons, List.take_succ_cons, List.take_succ_cons, List.zip_cons_cons, zip_take as bs i]
/-- a dict made of distinct keys, one for each item -/
theorem dc_idx {J : It} {n : Nat} {G : Hp → Prop} {Y : Nat → Hp → V → Hp → Prop} (w : Walk J n G Y) {j : Nat} {tk tv : TE} {σ : L2.St} {H1 : Hp} {D : Addr} {Qd : Hp → Prop} (xs : List V) (ks : List Key) (vs : List V) (hn : n = xs.length) (hk : xs.length = ks.length) (hv : xs.length = vs.length) (nd : ks.Nodup) (hN : n < sizeLine)
    (hG : ∀ o, G (upd H1 D o)) (hY : ∀ i H x H', Y i H x H' → H' = H ∧ xs[i]? = some x)
    (he : ∀ (i : Nat) (x : V) (k : Key) (v : V) (o : HO) (Q : V → V → Hp → Prop), xs[i]? = some x → ks[i]? = some k → vs[i]? = some v → Q (kV k) v (upd H1 D o) → tk ((wipe σ [j]).set j (some x)) (upd H1 D o) fun y H4 => tv ((wipe σ [j]).set j (some x)) H4 fun z H5 => Q y z H5)
    (hd : Qd (upd H1 D (.dK (ks.zip vs)))) :
    ∃ W : Nat → Nat → Hp → Prop, (∃ m, W 0 m (upd H1 D (.dK []))) ∧ ∀ i m H, W i m H →
      (J.stop i H ∧ Qd H) ∨ (J.go i H ∧ ∃ Nx : Hp → Prop, (∀ H', Nx H' → ∃ m', m' < m ∧ W (i + 1) m' H') ∧ ∀ x H', J.yld i H x H' → gName j x (wipe σ [j]) H' fun σ2 H2 => wipe σ2 [j] = wipe σ [j] ∧ tYes σ2 H2 fun b H3 =>
        if b = true then tk σ2 H3 fun y H4 => tv σ2 H4 fun z H5 => ∃ kvs k, y = kV k ∧ H5 D = some (.dK kvs) ∧ kvs.length < sizeLine ∧ Nx (upd H5 D (.dK (putK kvs k z))) else Nx H3) := by
  refine ⟨fun i m H => m = n - i ∧ i ≤ n ∧ H = upd H1 D (.dK ((ks.zip vs).take i)), ⟨n, by simp, Nat.zero_le _, by simp⟩, ?_⟩
  rintro i m H ⟨rfl, hi, e⟩
  subst e
  by_cases hlt : i < n
  · refine .inr ⟨w.goes i _ hlt (hG _), fun H' => i + 1 ≤ n ∧ H' = upd H1 D (.dK ((ks.zip vs).take (i + 1))), fun H' p' => ⟨n - (i + 1), by omega, rfl, p'⟩, fun x H' y => ?_⟩
    obtain ⟨e2, hx⟩ := hY i _ x H' (w.yields i _ x H' hlt (hG _) y)
    subst e2
    refine ⟨wipe1 σ j (some x), ?_⟩
    refine q_yes ?_
    refine iteT ?_
    have hk1 : ks[i]? = some ks[i] := List.getElem?_eq_getElem (by omega)
    have hv1 : vs[i]? = some vs[i] := List.getElem?_eq_getElem (by omega)
    refine he i x _ _ _ (fun y z H5 => ∃ kvs k, y = kV k ∧ H5 D = some (.dK kvs) ∧ kvs.length < sizeLine ∧ i + 1 ≤ n ∧ upd H5 D (.dK (putK kvs k z)) = upd H1 D (.dK ((ks.zip vs).take (i + 1)))) hx hk1 hv1 ⟨_, _, rfl, upd_same, ?_, hlt, ?_⟩
    · rw [List.length_take]; omega
    · rw [upd_upd]
      have hz : (ks.zip vs)[i]? = some (ks[i], vs[i]) := by rw [List.getElem?_zip_eq_some]; exact ⟨hk1, hv1⟩
      rw [take_snoc hz]
      congr 2
      rw [zip_take, putK_new _ (valV_none (nodup_at nd hk1))]
  · have e : i = n := by omega
    subst e
    refine .inl ⟨w.stops _ (hG _), ?_⟩
    have e : (ks.zip vs).take i = ks.zip vs := List.take_of_length_le (by rw [List.length_zip]; omega)
    rw [e]
    exact hd
/-- one instance changes, what is no list or dict stands -/
structure Mut (x : Addr) (H H' : Hp) : Prop where
  b : But x H H'
  t : TupKeep H H'
theorem Mut.refl (x : Addr) (H : Hp) : Mut x H H := ⟨fun _ _ _ h => h, .refl _⟩
theorem Mut.trans {x : Addr} {H H1 H2 : Hp} (a : Mut x H H1) (b : Mut x H1 H2) : Mut x H H2 := ⟨fun q o n h => b.b q o n (a.b q o n h), a.t.trans b.t⟩
theorem Mut.same {x : Addr} {H H' : Hp} (e : Same H H') : Mut x H H' := ⟨fun q o _ h => e q o h, .same e⟩
theorem Mut.ins {x C dx : Addr} {H : Hp} {fs : List (Str × V)} {o : HO} (h : H x = some (.ins C dx fs)) : Mut x H (upd H x o) := ⟨But.upd, fun q ys e => by
  rw [upd_ne (ne_of e h (fun z => nomatch z))]
  exact e⟩
theorem LstD.mut {H H' : Hp} {a x C dx : Addr} {fs : List (Str × V)} {ds : List PyData} (h : LstD H a ds) (hx : H x = some (.ins C dx fs)) (e : Mut x H H') : LstD H' a ds := by
  obtain ⟨xs, q, hs⟩ := h
  exact ⟨xs, e.b _ _ (ne_of q hx (fun z => nomatch z)) q, hs.keep e.t⟩
theorem isName_ok {s : Str} (h : isNameS s = true) : PyData.strOk s = true := by
  unfold isNameS at h
  rw [Bool.and_eq_true, List.all_eq_true] at h
  unfold PyData.strOk
  rw [Array.all_eq_true_iff_forall_mem]
  intro c hc
  have h2 := h.2 c (Array.mem_toList_iff.mpr hc)
  rw [Bool.and_eq_true] at h2
  have h3 : c ≤ 122 := of_decide_eq_true h2.2
  exact decide_eq_true (Nat.lt_of_le_of_lt h3 (by decide))
theorem nodup_inr {ns : List Str} (h : ns.Nodup) : (ns.map (Sum.inr : Str → Key)).Nodup := by
  unfold List.Nodup at h ⊢
  rw [List.pairwise_map]
  exact h.imp fun n e => n (by injection e)
theorem zip_inr : ∀ (ns : List Str) (rs : List V), (ns.map (Sum.inr : Str → Key)).zip rs = (ns.zip rs).map fun p => (Sum.inr p.1, p.2)
  | [], _ => by simp
  | _ :: _, [] => by simp
  | n :: ns, r :: rs => by rw [List.map_cons, List.zip_cons_cons, List.zip_cons_cons, List.map_cons, zip_inr ns rs]
theorem same_make {H H' : Hp} {x dx C : Addr} (hx : H x = none) (hd : H dx = none) (b : But x (upd (upd H dx (.own x)) x (.ins C dx [])) H') : Same H H' := fun q o h => b q o (fun z => by rw [z, hx] at h; cases h) (by
  rw [upd_ne (fun z => by rw [z, hx] at h; cases h), upd_ne (fun z => by rw [z, hd] at h; cases h)]
  exact h)
theorem TillAt.upd {c a D : Addr} {H : Hp} {t : TillD} {xs : List V} {o : HO} (h : TillAt c H a t) (hD : H D = some (.lst xs)) : TillAt c (L2.upd H D o) a t := by
  obtain ⟨dx, h⟩ := h
  refine ⟨dx, ?_⟩
  rw [upd_ne (ne_of h hD (fun z => nomatch z))]
  exact h
theorem But.free {p D : Addr} {H H' : Hp} (b : But p H H') (P : Pool H' p) (h : H' D = none) : H D = none := by
  cases e : H D with
  | none => rfl
  | some o =>
    by_cases z : D = p
    · obtain ⟨o2, h2⟩ := P.there
      rw [z, h2] at h
      cases h
    · rw [b D o z e] at h
      cases h
theorem But.mut {p D : Addr} {H0 H : Hp} {o : HO} (b : But p H0 H) (h : H0 D = none) : But p H0 (L2.upd H D o) := fun q u n e => by rw [upd_ne (ne_of_none e h)]; exact b q u n e
theorem Pool.upd {H : Hp} {p D : Addr} {o : HO} (P : Pool H p) (n : D ≠ p) : Pool (L2.upd H D o) p := by
  obtain ⟨x, z, h, hh⟩ := P.ex
  exact ⟨x, z, by rw [upd_ne n.symm]; exact h, hh⟩
/-! ### links made: a part of all pairs -/
def pairsL (as bs : List Str) : List (Str × Str) := as.flatMap fun a => bs.map fun b => (a, b)
theorem filter_sub {α : Type} [BEq α] [LawfulBEq α] {l P : List α} (h : l.Sublist P) : P.Nodup → P.filter (fun x => l.contains x) = l := by
  induction h with
  | slnil => intro _; rfl
  | @cons l P x h ih =>
    intro nd
    have nx : x ∉ P := (List.nodup_cons.mp nd).1
    have nl : ¬ l.contains x = true := fun e => nx (h.mem (by simpa using e))
    rw [List.filter_cons_of_neg nl, ih (List.nodup_cons.mp nd).2]
  | @cons_cons l P x h ih =>
    intro nd
    have nx : x ∉ P := (List.nodup_cons.mp nd).1
    rw [List.filter_cons_of_pos (by simp)]
    congr 1
    rw [← ih (List.nodup_cons.mp nd).2]
    refine List.filter_congr fun y hy => ?_
    rw [ih (List.nodup_cons.mp nd).2]
    have : (y == x) = false := by
      have : y ≠ x := fun e => nx (e ▸ hy)
      simpa using this
    rw [List.contains_cons, this, Bool.false_or]
theorem pairs_nodup {as bs : List Str} (ha : as.Nodup) (hb : bs.Nodup) : (pairsL as bs).Nodup := by
  unfold pairsL
  induction as with
  | nil => simp
  | cons a r ih =>
    rw [List.flatMap_cons, List.nodup_append]
    refine ⟨?_, ih (List.nodup_cons.mp ha).2, ?_⟩
    · unfold List.Nodup at hb ⊢
      rw [List.pairwise_map]
      exact hb.imp fun n e => n (by injection e)
    · intro x hx y hy e
      obtain ⟨b, _, rfl⟩ := List.mem_map.mp hx
      obtain ⟨a2, ha2, hy⟩ := List.mem_flatMap.mp hy
      obtain ⟨b2, _, rfl⟩ := List.mem_map.mp hy
      injection e with e1 _
      exact (List.nodup_cons.mp ha).1 (e1 ▸ ha2)
theorem prs_len (as bs : List Str) : (pairsL as bs).length = as.length * bs.length := by
  unfold pairsL
  induction as with
  | nil => simp
  | cons a r ih => rw [List.flatMap_cons, List.length_append, ih, List.length_map, List.length_cons, Nat.succ_mul, Nat.add_comm]
theorem ascL_eq (ord : List Str) (ks : List (Str × Str)) : ascL ord ks = (pairsL ord ord).filter fun l => ks.contains l := by
  unfold ascL pairsL
  rw [List.filter_flatMap]
theorem asc_sub {ord : List Str} {ks : List (Str × Str)} (h : ks.Sublist (pairsL ord ord)) (nd : ord.Nodup) : ks = ascL ord ks := by
  rw [ascL_eq, filter_sub h (pairs_nodup nd nd)]
theorem pairs_take {as bs : List Str} {i : Nat} {a : Str} (h : as[i]? = some a) : pairsL (as.take (i + 1)) bs = pairsL (as.take i) bs ++ bs.map fun b => (a, b) := by
  unfold pairsL
  rw [take_snoc h, List.flatMap_append, List.flatMap_cons, List.flatMap_nil, List.append_nil]
theorem cutV_from (xs : List V) (k : Nat) : cutV xs (some (k : Int)) none = xs.drop k := by
  unfold cutV
  rw [HT.sIx_nat, HT.sIx_none, List.take_of_length_le (by rw [List.length_drop]; omega)]
  by_cases h : k ≤ xs.length
  · rw [Nat.min_eq_left h]
  · rw [Nat.min_eq_right (by omega), List.drop_of_length_le (Nat.le_refl _), List.drop_of_length_le (by omega)]
theorem q_slL {K : PySem.W.Frag} {H : Hp} {a : Addr} {xs : List V} {lo hi : Option Int} {Q : VK} (h : SqL K H a xs) (q : ∀ p, H p = none → Q (.ref p) (upd H p (.lst (cutV xs lo hi)))) : rSlL K (.ref a) lo hi H Q := ⟨a, xs, rfl, h, q⟩
theorem sorted_lt {ks : List Str} (h : sortedS ks = true) (nd : ks.Nodup) {i j : Nat} {a b : Str} (hij : i < j) (ha : ks[i]? = some a) (hb : ks[j]? = some b) : a.cps.toList < b.cps.toList := by
  have h1 := sortedS_pw h
  obtain ⟨hi, ha⟩ := List.getElem?_eq_some_iff.mp ha
  obtain ⟨hj, hb⟩ := List.getElem?_eq_some_iff.mp hb
  have h2 : leS a b := by
    have := List.pairwise_iff_getElem.mp h1 i j hi hj hij
    rw [ha, hb] at this
    exact this
  by_cases e : a.cps.toList < b.cps.toList
  · exact e
  · have h3 : b.cps.toList ≤ a.cps.toList := e
    have h4 : a = b := str_ext (List.le_antisymm h2 h3)
    subst h4
    have := List.pairwise_iff_getElem.mp nd i j hi hj hij
    rw [ha, hb] at this
    exact absurd rfl this
theorem But.step {p f : Addr} {H0 H H' : Hp} (b : But p H0 H) (hf : H0 f = none) (g : But f H H') : But p H0 H' := fun q o n h => g q o (fun z => by rw [z, hf] at h; cases h) (b q o n h)
theorem Pool.step {p f : Addr} {H H' : Hp} (P : Pool H p) (n : f ≠ p) (g : But f H H') : Pool H' p := by
  obtain ⟨x, z, h, hh⟩ := P.ex
  exact ⟨x, z, g p _ n.symm h, hh⟩
theorem Mut.pool {p : Addr} {H H' : Hp} (P : Pool H p) (b : But p H H') : Mut p H H' := ⟨b, .but P b⟩
theorem Mut.dK {x : Addr} {H : Hp} {kvs : List (Key × V)} {o : HO} (h : H x = some (.dK kvs)) : Mut x H (upd H x o) := ⟨But.upd, fun q ys e => by
  rw [upd_ne (ne_of e h (fun z => nomatch z))]
  exact e⟩
theorem LstD.mutp {H H' : Hp} {a x : Addr} {ds : List PyData} (h : LstD H a ds) (n : a ≠ x) (e : Mut x H H') : LstD H' a ds := by
  obtain ⟨xs, q, hs⟩ := h
  exact ⟨xs, e.b _ _ n q, hs.keep e.t⟩
theorem q_disp {trs : List (TE × TE)} {σ : L2.St} {H : Hp} {Q : VK} (h : ∀ p, H p = none → tPairs trs σ (upd H p (.dK [])) fun ps H2 => H2 p = some (.dK []) ∧ ∃ kvs : List (Key × V), ps = kvs.map (fun kv => (kV kv.1, kv.2)) ∧ kvs.length ≤ 15 ∧ Q (.ref p) (upd H2 p (.dK (mergeK [] kvs)))) : tDisp trs σ H Q := h
theorem q_pnil {σ : L2.St} {H : Hp} {Q : List (V × V) → Hp → Prop} (h : Q [] H) : tPairs [] σ H Q := h
theorem q_pcons {tk tv : TE} {r : List (TE × TE)} {σ : L2.St} {H : Hp} {Q : List (V × V) → Hp → Prop} (h : tk σ H fun x H1 => tv σ H1 fun y H2 => tPairs r σ H2 fun ps H3 => Q ((x, y) :: ps) H3) : tPairs ((tk, tv) :: r) σ H Q := h
theorem q_setD {H : Hp} {a : Addr} {kvs : List (Key × V)} {s : Str} {v : V} {Q : Hp → Prop} (h : H a = some (.dK kvs)) (hl : kvs.length < sizeLine) (q : Q (upd H a (.dK (putK kvs (.inr s) v)))) : rSetD (.ref a) (.str s) v H Q := ⟨a, _, rfl, DPut.k (k := Sum.inr s) h hl, q⟩
theorem model4 (a b c d : V) : mergeK [] [((Sum.inr "tills" : Key), a), (.inr "links", b), (.inr "money", c), (.inr "memory", d)] = [((Sum.inr "tills" : Key), a), (.inr "links", b), (.inr "money", c), (.inr "memory", d)] := by
  show putK (putK (putK (putK [] (Sum.inr "tills" : Key) a) (.inr "links") b) (.inr "money") c) (.inr "memory") d = _
  rw [putK_new a (by rfl), List.nil_append, putK_new b (((valV_miss (by decide +kernel)).trans rfl)), putK_new c (by rw [List.singleton_append]; exact (((valV_miss (by decide +kernel)).trans ((valV_miss (by decide +kernel)).trans rfl)))), putK_new d (by simp only [List.singleton_append, List.cons_append, List.nil_append]; exact (((valV_miss (by decide +kernel)).trans ((valV_miss (by decide +kernel)).trans ((valV_miss (by decide +kernel)).trans rfl)))))]
  rfl
theorem model6 (a b c d e f : V) : putK (putK [((Sum.inr "tills" : Key), a), (.inr "links", b), (.inr "money", c), (.inr "memory", d)] (.inr "tops") e) (.inr "numbered") f = [((Sum.inr "tills" : Key), a), (.inr "links", b), (.inr "money", c), (.inr "memory", d), (.inr "tops", e), (.inr "numbered", f)] := by
  rw [putK_new e (((valV_miss (by decide +kernel)).trans ((valV_miss (by decide +kernel)).trans ((valV_miss (by decide +kernel)).trans ((valV_miss (by decide +kernel)).trans rfl))))), putK_new f (by simp only [List.cons_append, List.nil_append]; exact (((valV_miss (by decide +kernel)).trans ((valV_miss (by decide +kernel)).trans ((valV_miss (by decide +kernel)).trans ((valV_miss (by decide +kernel)).trans ((valV_miss (by decide +kernel)).trans rfl)))))))]
  rfl
/-! ### values that are no events -/
def oddN (s : Str) : Prop := s.length ≠ 5 ∧ s ≠ "cut"
def okNs (ns : List Str) : Prop := ∀ n ∈ ns, isNameS n = true ∧ oddN n
def OddV (H : Hp) (v : V) : Prop := AnyE H v ∧ ∀ ns : List Str, okNs ns → isEvH ns H v = false
theorem OddV.same {H H' : Hp} {v : V} (h : OddV H v) (e : Same H H') : OddV H' v := ⟨h.1.same e, fun ns hn => by rw [isEvH_same h.1.1 e]; exact h.2 ns hn⟩
def OddL (H : Hp) (l : Addr) (n : Nat) : Prop := ∃ xs, H l = some (.lst xs) ∧ xs.length = n ∧ ∀ v ∈ xs, OddV H v
theorem OddL.same {H H' : Hp} {l : Addr} {n : Nat} (h : OddL H l n) (e : Same H H') : OddL H' l n := by
  obtain ⟨xs, h1, h2, h3⟩ := h
  exact ⟨xs, e _ _ h1, h2, fun v hv => (h3 v hv).same e⟩
theorem q_catO {H : Hp} {l b : Addr} {n m : Nat} {Q : VK} (h1 : OddL H l n) (h2 : OddL H b m) (hl : n + m ≤ 1000) (q : ∀ p H', H p = none → Same H H' → OddL H' p (n + m) → Q (.ref p) H') : rCat (.ref l) (.ref b) H Q := by
  obtain ⟨xs, e1, l1, t1⟩ := h1
  obtain ⟨ys, e2, l2, t2⟩ := h2
  refine ⟨l, b, xs, ys, rfl, rfl, e1, e2, ?_, fun p hp => q p _ hp (Same.new hp) ⟨_, upd_same, by rw [List.length_append, l1, l2], fun v hv => ?_⟩⟩
  · rw [l1, l2]
    exact Nat.le_trans hl (by decide)
  · rcases List.mem_append.mp hv with hv | hv
    · exact (t1 v hv).same (Same.new hp)
    · exact (t2 v hv).same (Same.new hp)
theorem OddV.tup {H : Hp} {a : Addr} {xs : List V} (h : H a = some (.tup xs)) (e : ∀ ns : List Str, okNs ns → evT ns xs = false) (hx : ∀ y ∈ xs, Any H y ∧ ∀ s, y = .str s → s.length ≤ 100000) : OddV H (.ref a) := ⟨.tup h hx, fun ns hn => by rw [isEvH_tup h]; exact e ns hn⟩
theorem OddV.lst {H : Hp} {a : Addr} {xs : List V} (h : H a = some (.lst xs)) : OddV H (.ref a) := ⟨.lst h, fun ns _ => by simp [isEvH, h]⟩
theorem OddV.dK {H : Hp} {a : Addr} {xs : List (Key × V)} (h : H a = some (.dK xs)) : OddV H (.ref a) := ⟨.dK h, fun ns _ => by simp [isEvH, h]⟩
theorem OddV.flat {H : Hp} {v : V} (h : Any H v) (hr : ∀ a, v ≠ .ref a) : OddV H v := ⟨.flat h hr, fun ns _ => by
  cases v <;> first | rfl | exact absurd rfl (hr _)⟩
section
variable {ns : List Str} {w : Str} {y u : V}
theorem ev1 (h : w ≠ "lose") : evT ns [.str w] = false := decide_eq_false h
theorem evT2 : evT ns [.str w, y] = if w = "top" then isUnits y else (decide (w = "cut") || decide (w = "line") || decide (w = "again")) && inNames ns y := rfl
theorem ev2top (h : isUnits y = false) : evT ns [.str "top", y] = false := by
  rw [evT2, if_pos rfl]
  exact h
theorem ev2no (h0 : w ≠ "top") (h1 : w ≠ "cut") (h2 : w ≠ "line") (h3 : w ≠ "again") : evT ns [.str w, y] = false := by
  show (if w = "top" then isUnits y else (decide (w = "cut") || decide (w = "line") || decide (w = "again")) && inNames ns y) = false
  rw [if_neg h0, decide_eq_false h1, decide_eq_false h2, decide_eq_false h3]
  rfl
theorem ev2nm (h0 : w = "top" → isUnits y = false) (h : inNames ns y = false) : evT ns [.str w, y] = false := by
  show (if w = "top" then isUnits y else (decide (w = "cut") || decide (w = "line") || decide (w = "again")) && inNames ns y) = false
  by_cases e : w = "top"
  · rw [if_pos e]
    exact h0 e
  · rw [if_neg e, h, Bool.and_false]
theorem ev3w (h : w ≠ "pay") : evT ns [.str w, y, u] = false := by
  show (decide (w = "pay") && inNames ns y && isUnits u) = false
  rw [decide_eq_false h]
  rfl
theorem ev3n (h : inNames ns y = false) : evT ns [.str w, y, u] = false := by
  show (decide (w = "pay") && inNames ns y && isUnits u) = false
  rw [h, Bool.and_false, Bool.false_and]
theorem ev3u (h : isUnits u = false) : evT ns [.str w, y, u] = false := by
  show (decide (w = "pay") && inNames ns y && isUnits u) = false
  rw [h, Bool.and_false]
theorem nin5 {s : Str} (h : okNs ns) (hs : s.length = 5) : inNames ns (.str s) = false := decide_eq_false fun z => (h s z).2.1 hs
theorem ninN {s : Str} (h : okNs ns) (hs : isNameS s = false) : inNames ns (.str s) = false := decide_eq_false fun z => by rw [(h s z).1] at hs; cases hs
theorem ninC (h : okNs ns) : inNames ns (.str "cut") = false := decide_eq_false fun z => (h _ z).2.2 rfl
end
def isStrV : V → Bool
  | .str _ => true
  | _ => false
def isRefV : V → Bool
  | .ref _ => true
  | _ => false
theorem isStrV_no {y : V} (h : isStrV y = false) : ∀ s, y ≠ .str s := fun s e => by rw [e] at h; cases h
theorem evT_nstrB {ns : List Str} {y : V} {r : List V} (h : isStrV y = false) : evT ns (y :: r) = false := evT_nstr (isStrV_no h)
theorem inNames_notB {ns : List Str} {y : V} (h : isStrV y = false) : inNames ns y = false := inNames_not (isStrV_no h)
theorem OddV.flatB {H : Hp} {v : V} (h : isRefV v = false) (a : Any H v) : OddV H v := OddV.flat a (fun s e => by rw [e] at h; cases h)
theorem oi_n {H : Hp} {y : V} (h : isStrV y = false) (a : Any H y) : Any H y ∧ ∀ s, y = .str s → s.length ≤ 100000 := ⟨a, fun s e => absurd e (isStrV_no h s)⟩
theorem oi_s {H : Hp} {z : Str} (h : z.length ≤ 100000) : Any H (.str z) ∧ ∀ s, V.str z = .str s → s.length ≤ 100000 := ⟨.str z, fun s e => by cases e; exact h⟩
/-! ### events as data -/
theorem canAll {xs : List PyData} (h : ∀ x ∈ xs, x.canLay0 = true) : PyData.canLayAll0 xs = true := by
  induction xs with
  | nil => simp [PyData.canLayAll0]
  | cons a r ih => simp [PyData.canLayAll0, h a (by simp), ih (fun x hx => h x (by simp [hx]))]
theorem depAll {xs : List PyData} {n : Nat} (h : ∀ x ∈ xs, x.depth ≤ n) : PyData.depthAll xs ≤ n + 1 := by
  induction xs with
  | nil => simp [PyData.depthAll]
  | cons a r ih =>
    have h1 := h a (by simp)
    have h2 := ih (fun x hx => h x (by simp [hx]))
    simp only [PyData.depthAll]
    omega
theorem allEv_mem {ns : List Str} {d : PyData} (h : d ∈ allEv ns) : (∃ w n, d = wordP w n ∧ n ∈ ns ∧ (w = "cut" ∨ w = "line" ∨ w = "again")) ∨ (∃ n u, d = payP n u ∧ n ∈ ns ∧ (u = 1 ∨ u = 2)) ∨ (∃ u, d = .tuple [.str "top", .int u] ∧ (u = 1 ∨ u = 2)) ∨ d = .tuple [.str "lose"] := by
  unfold allEv at h
  rw [List.mem_append, List.mem_append, List.mem_append, List.mem_append] at h
  rcases h with (((h | h) | h) | h) | h
  · obtain ⟨n, hn, rfl⟩ := List.mem_map.mp h
    exact .inl ⟨_, n, rfl, hn, .inl rfl⟩
  · obtain ⟨n, hn, rfl⟩ := List.mem_map.mp h
    exact .inl ⟨_, n, rfl, hn, .inr (.inl rfl)⟩
  · obtain ⟨n, hn, h⟩ := List.mem_flatMap.mp h
    simp only [List.mem_cons, List.not_mem_nil, or_false] at h
    rcases h with rfl | rfl
    · exact .inr (.inl ⟨n, 1, rfl, hn, .inl rfl⟩)
    · exact .inr (.inl ⟨n, 2, rfl, hn, .inr rfl⟩)
  · simp only [List.mem_cons, List.not_mem_nil, or_false] at h
    rcases h with rfl | rfl | rfl
    · exact .inr (.inr (.inl ⟨1, rfl, .inl rfl⟩))
    · exact .inr (.inr (.inl ⟨2, rfl, .inr rfl⟩))
    · exact .inr (.inr (.inr rfl))
  · obtain ⟨n, hn, rfl⟩ := List.mem_map.mp h
    exact .inl ⟨_, n, rfl, hn, .inr (.inr rfl)⟩
theorem word_ok : ∀ w ∈ [("cut" : Str), "line", "again", "pay", "top", "lose"], PyData.strOk w = true := by decide +kernel
theorem allEv_can {ns : List Str} (hn : ∀ n ∈ ns, PyData.strOk n = true) {d : PyData} (h : d ∈ allEv ns) : d.canLay0 = true ∧ d.depth ≤ 1 := by
  rcases allEv_mem h with ⟨w, n, rfl, h1, h2⟩ | ⟨n, u, rfl, h1, h2⟩ | ⟨u, rfl, h2⟩ | rfl
  · have hw : PyData.strOk w = true := by
      rcases h2 with rfl | rfl | rfl <;> exact word_ok _ (by simp)
    have h3 := hn n h1
    refine ⟨?_, ?_⟩
    · simp [wordP, PyData.canLay0, PyData.canLayAll0, hw, h3]
    · simp [wordP, PyData.depth, PyData.depthAll]
  · have hw : PyData.strOk "pay" = true := word_ok _ (by simp)
    have h3 := hn n h1
    refine ⟨?_, ?_⟩
    · simp [payP, PyData.canLay0, PyData.canLayAll0, hw, h3]
    · simp [payP, PyData.depth, PyData.depthAll]
  · have hw : PyData.strOk "top" = true := word_ok _ (by simp)
    refine ⟨?_, ?_⟩
    · simp [PyData.canLay0, PyData.canLayAll0, hw]
    · simp [PyData.depth, PyData.depthAll]
  · have hw : PyData.strOk "lose" = true := word_ok _ (by simp)
    refine ⟨?_, ?_⟩
    · simp [PyData.canLay0, PyData.canLayAll0, hw]
    · simp [PyData.depth, PyData.depthAll]
theorem allEv_shaped {ns : List Str} (hn : ∀ n ∈ ns, PyData.strOk n = true) : SeqAt.shaped (.list (allEv ns)) = true ∧ PyData.canLay0 (.list (allEv ns)) = true := by
  have h1 : PyData.canLayAll0 (allEv ns) = true := canAll fun x hx => (allEv_can hn hx).1
  have h2 := depAll (fun x hx => (allEv_can hn hx).2 : ∀ x ∈ allEv ns, x.depth ≤ 1)
  have h3 : PyData.canLay0 (.list (allEv ns)) = true := by simp only [PyData.canLay0]; exact h1
  refine ⟨?_, h3⟩
  show (PyData.canLay0 (.list (allEv ns)) && decide (PyData.depth (.list (allEv ns)) ≤ 64)) = true
  rw [h3, Bool.true_and]
  refine decide_eq_true ?_
  simp only [PyData.depth]
  omega
theorem allEv_is {ns : List Str} (hn : ∀ n ∈ ns, n.length ≤ 8) {H : Hp} {v : V} {d : PyData} (h : d ∈ allEv ns) (t : Td H v d) : ∃ a xs, v = .ref a ∧ H a = some (.tup xs) ∧ evT ns xs = true ∧ ∀ y ∈ xs, Any H y ∧ ∀ s, y = .str s → s.length ≤ 100000 := by
  rcases allEv_mem h with ⟨w, n, rfl, h1, h2⟩ | ⟨n, u, rfl, h1, h2⟩ | ⟨u, rfl, h2⟩ | rfl
  · cases t with
    | tup ht hs =>
      cases hs with
      | cons a1 hs =>
        cases a1
        cases hs with
        | cons a2 hs =>
          cases a2
          cases hs
          have h8 := hn n h1
          refine ⟨_, _, rfl, ht, ?_, List.forall_mem_cons.mpr ⟨oi_s ?_, List.forall_mem_cons.mpr ⟨oi_s (by omega), List.forall_mem_nil _⟩⟩⟩
          · have hin : inNames ns (.str n) = true := decide_eq_true h1
            rw [evT2, hin]
            rcases h2 with rfl | rfl | rfl
            · rw [if_neg (by decide +kernel)]; decide +kernel
            · rw [if_neg (by decide +kernel)]; decide +kernel
            · rw [if_neg (by decide +kernel)]; decide +kernel
          · rcases h2 with rfl | rfl | rfl <;> decide +kernel
  · cases t with
    | tup ht hs =>
      cases hs with
      | cons a1 hs =>
        cases a1
        cases hs with
        | cons a2 hs =>
          cases a2
          cases hs with
          | cons a3 hs =>
            cases a3
            cases hs
            have h8 := hn n h1
            refine ⟨_, _, rfl, ht, ?_, List.forall_mem_cons.mpr ⟨oi_s (by decide +kernel), List.forall_mem_cons.mpr ⟨oi_s (by omega), List.forall_mem_cons.mpr ⟨oi_n rfl (.int _), List.forall_mem_nil _⟩⟩⟩⟩
            have hin : inNames ns (.str n) = true := decide_eq_true h1
            show (decide (("pay" : Str) = "pay") && inNames ns (.str n) && isUnits (.int u)) = true
            rw [hin]
            rcases h2 with rfl | rfl <;> decide +kernel
  · cases t with
    | tup ht hs =>
      cases hs with
      | cons a1 hs =>
        cases a1
        cases hs with
        | cons a2 hs =>
          cases a2
          cases hs
          refine ⟨_, _, rfl, ht, ?_, List.forall_mem_cons.mpr ⟨oi_s (by decide +kernel), List.forall_mem_cons.mpr ⟨oi_n rfl (.int _), List.forall_mem_nil _⟩⟩⟩
          rw [evT2, if_pos rfl]
          rcases h2 with rfl | rfl <;> decide +kernel
  · cases t with
    | tup ht hs =>
      cases hs with
      | cons a1 hs =>
        cases a1
        cases hs
        exact ⟨_, _, rfl, ht, (show decide (("lose" : Str) = "lose") = true by decide +kernel), List.forall_mem_cons.mpr ⟨oi_s (by decide +kernel), List.forall_mem_nil _⟩⟩
theorem allEv_len {ns : List Str} (h : ns.length ≤ 4) : (allEv ns).length ≤ 100 := by
  unfold allEv
  rw [List.length_append, List.length_append, List.length_append, List.length_append, List.length_map, List.length_map, List.length_map, flat2_len]
  show ns.length + ns.length + _ + 3 + ns.length ≤ 100
  omega
theorem isName_pos {s : Str} (h : isNameS s = true) : s.length ≠ 0 := by
  unfold isNameS at h
  rw [Bool.and_eq_true, Bool.and_eq_true] at h
  have := of_decide_eq_true h.1.1
  omega
end Kx

namespace Kx
open PySem PySem.Spec PyProof.Rows L2
/-- the heap behind enumerate of a tuple: its iterator, then the enumerate -/
def enHp (g : Heap) (q : Addr) : Heap :=
  (g.push { cls := .type "tuple_iterator", data := .fields #[.ref q, .int 0 0] }).push
    { cls := .type "enumerate", data := .fields #[.none, .bool false, .ref g.objs.size, rawInt 0, .none, .none] }
theorem en_new (q : Addr) (ws : Array Value) (dc : Option Addr) (k : Nat) (so : Array (Option Value)) :
    Meets (Builtin.«enumerate.__new__» ⟨[.type "enumerate", .ref q], []⟩) (fun _ R u =>
      u.heap.get? q = some { cls := .type "tuple", dict := dc, data := .seq ws k, slots := so } ∧
      R (.ok (.ret (.ref (u.heap.objs.size + 1)))) { u with heap := enHp u.heap q }) :=
  .of_wp fun prog w A R u z => by
    obtain ⟨z1, z2⟩ := z
    obtain ⟨hp, gs, ds, tk, os⟩ := u
    have hs0 := sub_enumerate
    have tq : Heap.IsTuple (Shared.heap ⟨hp, gs, ds, tk, os⟩) q ws := ⟨_, z1, rfl, k, rfl⟩
    wp_walk using AutoSeq1.wpAny_loadPart' z1
    refine wpAny_stack_any fun st => wpAny_pure ?_
    have zz : (hp.push { cls := .type "tuple_iterator", data := .fields #[.ref q, .int 0 0] }).objs.size = hp.objs.size + 1 := Heap.size_push ..
    have z3 := z2
    unfold enHp at z3
    rw [← zz] at z3
    split
    · rename_i cc _ _ _ _ _
      cases (cc == Value.type "enumerate") <;> (wp_walk using AutoSeq1.wpAny_loadPart' z1, wpAny_pyIter_tuple tq; exact ⟨_, rfl, z3⟩)
    · wp_walk using AutoSeq1.wpAny_loadPart' z1, wpAny_pyIter_tuple tq
      exact ⟨_, rfl, z3⟩
section
variable {prog : Program} {w : World} {A : Around} {E : Value → Shared → Prop} {u : Shared}
theorem en_call {q : Addr} {ws : Array Value} {Q : Value → Shared → Prop} (tq : u.heap.IsTuple q ws)
    (k : IsEnum (enHp u.heap q) (u.heap.objs.size + 1) u.heap.objs.size 0 .none → (enHp u.heap q).IsTupleIter u.heap.objs.size q 0 → (∀ b o, u.heap.get? b = some o → (enHp u.heap q).get? b = some o) → Q (.ref (u.heap.objs.size + 1)) { u with heap := enHp u.heap q }) :
    wpAny (model prog w) A (call (.type "enumerate") [.ref q]) Q E u := by
  obtain ⟨⟨c, dc, dt, so⟩, z1, z2, m, z3⟩ := tq
  have z2 : c = .type "tuple" := z2
  have z3 : dt = .seq ws m := z3
  subst z2
  subst z3
  have zz : (u.heap.push { cls := .type "tuple_iterator", data := .fields #[.ref q, .int 0 0] }).objs.size = u.heap.objs.size + 1 := Heap.size_push ..
  have ie : IsEnum (enHp u.heap q) (u.heap.objs.size + 1) u.heap.objs.size 0 .none := by
    have z := Heap.get?_push_size (u.heap.push { cls := .type "tuple_iterator", data := .fields #[.ref q, .int 0 0] })
      (o := { cls := .type "enumerate", data := .fields #[.none, .bool false, .ref u.heap.objs.size, rawInt 0, .none, .none] }) rfl
    rw [zz] at z
    exact z
  refine callType_new F.called_enumerate (by decide) (F.typeCall_enumerate_1 _) (F.newCall_enumerate_1 _) (fun ob => F.args_object_init_2 ob _) F.entry_enumerate_new (en_new q ws dc m so) ⟨z1, ?_⟩
  exact ⟨⟨_, ie, rfl⟩, k ie ⟨_, Heap.get?_push_of_some _ (Heap.get?_push_size _ rfl), rfl, rfl⟩ (fun b o x => Heap.get?_push_of_some _ (Heap.get?_push_of_some _ x))⟩
end
/-- enumerate over the tuple at a -/
def Iet (K : PySem.W.Frag) (a : Addr) : It where
  go i H := ∃ (ys : List V) (y : V), SqT K H a ys ∧ ys[i]? = some y
  yld i H v G := ∃ (T : Addr) (y : V), v = .ref T ∧ H T = none ∧ G = upd H T (.tup [.int (i : Nat), y]) ∧ ∀ ys, SqT K H a ys → ys[i]? = some y
  stop i H := ∃ ys : List V, SqT K H a ys ∧ ys.length ≤ i
theorem tup_ne_iter {h : Heap} {a t it : Addr} {i : Nat} {ws : Array Value} (x : h.IsTuple t ws) (y : h.IsTupleIter it a i) : t ≠ it := by
  rintro rfl
  obtain ⟨o, h1, h2, _⟩ := x
  obtain ⟨o2, g1, g2, _⟩ := y
  rw [h1] at g1
  cases g1
  rw [h2] at g2
  injection g2 with g2
  exact absurd g2 (by decide)
theorem tup_ne_en {h : Heap} {t e it : Addr} {i : Int} {old : Value} {ws : Array Value} (x : h.IsTuple t ws) (y : IsEnum h e it i old) : e ≠ t := by
  rintro rfl
  obtain ⟨o, h1, h2, _⟩ := x
  have y : h.get? e = _ := y
  rw [h1] at y
  cases y
  injection h2 with h2
  exact absurd h2 (by decide)
/-- a tuple's iterator past the end -/
theorem en_past {prog : Program} {w : World} {A : Around} (hh : A.handled = none) {it t : Addr} {i : Nat} {ws : Array Value} {h0 : Heap} (_ : h0.IsTuple t ws) (hno : ws[i]? = none) :
    Draws prog w A it [it, t] i (fun _ _ => True) (fun j h => j = i ∧ h.IsTupleIter it t i ∧ h.IsTuple t ws) where
  live _ _ st := let ⟨o, ho, _⟩ := st.2.1; ⟨o, ho⟩
  frame _ _ _ st k := ⟨st.1, st.2.1.at fun o e => k it (by simp) o e, st.2.2.at fun o e => k t (by simp) o e⟩
  item j _ _ _ hj st _ := absurd st.1 (Nat.ne_of_lt hj)
  done _ _ _ st hE := wpAny_nextOf_tuple_end hh st.2.1 st.2.2 hno hE
theorem iet_turn {P : Program} {w : World} {K : PySem.W.Frag} {elts : List Expr} {kk : Nat} {tpos : Pos} (a e it : Addr) :
    Turn P w K (.Tuple elts kk tpos) (Iet K a) [e, it] e (fun i h => (∃ old, IsEnum h e it ((i : Nat) : Int) old) ∧ h.IsTupleIter it a i ∧ e ≠ it) where
  mem := List.mem_cons_self
  obj i h st b hb := by
    obtain ⟨⟨old, ie⟩, ⟨o, z1, _, z3⟩, _⟩ := st
    rcases List.mem_cons.mp hb with rfl | hb
    · exact ⟨_, ie, fun v q => nomatch q⟩
    · rw [List.mem_singleton.mp hb]
      exact ⟨o, z1, fun v q => by rw [z3] at q; cases q⟩
  keep i h h' st k := by
    obtain ⟨⟨old, ie⟩, ⟨o, z1, z2⟩, ne⟩ := st
    exact ⟨⟨old, k e List.mem_cons_self _ ie⟩, ⟨o, k it (by simp) o z1, z2⟩, ne⟩
  item := by
    rintro X rfl rfl rfl hc i pins u σ H E I hf ⟨⟨old, ie⟩, ti, ne⟩ ⟨ys, y, hq, hy⟩
    obtain ⟨its, rv, tp, hz⟩ := I.tuple hq
    have hlen := rv.length
    have hi : i < its.toArray.size := by
      have := (List.getElem?_eq_some_iff.mp hy).1
      simp
      omega
    have tp : u.heap.IsTuple a its.toArray := tp
    have nf : e ∉ [it, a] := by
      simp only [List.mem_cons, List.not_mem_nil, or_false, not_or]
      exact ⟨ne, tup_ne_en tp ie⟩
    refine wpAny_pyNext_enum_itemD (Draws.tuple (prog := X.prog) (w := X.w) (A := X.A.in1) (I.ok.hd hc) it a (tup_ne_iter tp ti) its.toArray) ie ⟨ti, tp⟩ hi ne nf fun x g tk hx oe st' hT hsz hk => ?_
    have hx : its.toArray[i]? = some x := hx
    obtain ⟨u2, hu, ru⟩ := rv.get hy
    have exu : x = u2 := by
      have h1 : its[i]? = some x := by simpa using hx
      rw [hu] at h1
      cases h1
      rfl
    subst exu
    have hel : e < u.heap.objs.size := Heap.lt_size ie
    have hil : it < u.heap.objs.size := by obtain ⟨_, q, _⟩ := ti; exact Heap.lt_size q
    refine ⟨_, rfl, wpAny_letOwnedTupleGo_enum (s := { u with heap := g, toks := tk + 1 }) oe fun g2 ie2 sb => ?_⟩
    have hT2 : g2.get? u.heap.objs.size = some { cls := .type "tuple", data := .seq #[.int i tk, x] } := (sb.2 _ (Nat.ne_of_gt hel)).trans hT
    have nw : ObjOk X.prog X.w (upd H u.heap.objs.size (.tup [.int (i : Nat), y])) g2 u.heap.objs.size (.tup [.int (i : Nat), y]) :=
      ⟨(show 2 ≤ sizeLine by decide), [.int i tk, x], .cons ⟨_, rfl⟩ (.cons ru .nil), ⟨_, hT2, rfl, _, rfl⟩⟩
    have I1 : Inv X pins σ (upd H u.heap.objs.size (.tup [.int (i : Nat), y])) { u with heap := g2, toks := tk + 1 } :=
      I.turnedNew (ch := [e, it]) (fun b ob hb q => (sb.2 b (fun z => hb (by simp [z]))).trans (hk b ob (fun z => hb (by simp [z])) (fun z => hb (by simp [z])) q)) hf (Nat.le_refl _) nw
    refine ⟨.ref u.heap.objs.size, _, I1, rfl, ⟨_, y, rfl, I.hok.fresh (Nat.le_refl _), rfl, fun zs hz => by rw [I.tuple_inj hz hq]; exact hy⟩, ⟨⟨x, ?_⟩, st'.1.at fun o q => (sb.2 it (Ne.symm ne)).trans q, ne⟩, fun b hb => ?_⟩
    · have z : ((i + 1 : Nat) : Int) = (i : Int) + 1 := by omega
      rw [z]
      exact ie2
    · have hb2 : b < u.heap.objs.size := by
        rcases List.mem_cons.mp hb with z | z
        · rw [z]; exact hel
        · rw [List.mem_singleton.mp z]; exact hil
      rw [upd_ne (Nat.ne_of_lt hb2)]
      exact (hf b hb).1
  done := by
    rintro X rfl rfl rfl hc i pins u σ H E I hf ⟨⟨old, ie⟩, ti, ne⟩ ⟨ys, hq, hy⟩
    obtain ⟨its, rv, tp, hz⟩ := I.tuple hq
    have tp : u.heap.IsTuple a its.toArray := tp
    obtain ⟨f0, f1, f2, f3, f4, f5⟩ := hf it (by simp)
    have hlen := rv.length
    have hno : its.toArray[i]? = none := by
      simp
      omega
    exact wpAny_pyNext_enum_endD (en_past (prog := X.prog) (w := X.w) (A := X.A.in1) (I.ok.hd hc) tp hno) ie ⟨rfl, ti, tp⟩ fun g eb => ⟨rfl, I.turned (t' := u.toks) (fun b o hb q => eb b o hb q) f0 f1 f3 f4 f5⟩
  self A i u Q E st h := by
    obtain ⟨⟨old, ie⟩, _⟩ := st
    exact wpAny_pyIter_enum ie h
def iEnT (K : PySem.W.Frag) (ta : TA) : TI := fun σ H R => ta σ H fun vs G => ∃ a ys, vs = [.ref a] ∧ SqT K G a ys ∧ R (Iet K a) G
theorem pi_enumT {X : Cx} {e : Expr} {ta : TA} {p pos tpos : Pos} {elts : List Expr} {kk : Nat} (hg : Gl X "enumerate") (hm : X.mg "enumerate" = none) (ha : PA X [e] ta) (hs : starEach [e] X.env = [(false, eval e X.env)] := by rfl) :
    PI X (.Tuple elts kk tpos) (.Call (.Name "enumerate" p) [e] [] pos) (iEnT X.K ta) := by
  refine ⟨fun pins u σ H R I h => ?_⟩
  refine Call_ (ld_blt I hg hm boot_enumerate (PyProof.Rows.callWith_type1 (thn (ha.run pos pins u σ H _ I h) fun us u1 ⟨vs, G, I1, r1, q1⟩ => ?_) hs rfl))
  obtain ⟨a, ys, rfl, hq, q⟩ := q1
  cases r1 with
  | cons r rr =>
    cases rr
    cases r
    obtain ⟨its, rv, tp, hz⟩ := I1.tuple hq
    refine en_call (show u1.heap.IsTuple a its.toArray from tp) fun ie ti hk => wpAny_pyIter_enum ie ?_
    have I2 : Inv X pins σ G { u1 with heap := enHp u1.heap a } := I1.kept (t' := u1.toks) hk
    refine ⟨u1.heap.objs.size + 1, [u1.heap.objs.size + 1, u1.heap.objs.size], _, _, G, rfl, I2, iet_turn a (u1.heap.objs.size + 1) u1.heap.objs.size, ⟨⟨.none, ie⟩, ti, Nat.succ_ne_self _⟩, fun b hb => ?_, q⟩
    have hle : u1.heap.objs.size ≤ b := by
      rcases List.mem_cons.mp hb with z | z
      · rw [z]; exact Nat.le_add_right _ _
      · rw [List.mem_singleton.mp z]; exact Nat.le_refl _
    exact I1.fpOk hle (I1.hok.fresh hle)
theorem walk_enT {K : PySem.W.Frag} {a : Addr} {ys : List V} : Walk (Iet K a) ys.length (fun H => SqT K H a ys) (fun i H v G => ∃ (T : Addr) (y : V), v = .ref T ∧ H T = none ∧ G = upd H T (.tup [.int (i : Nat), y]) ∧ ys[i]? = some y) :=
  ⟨fun i _ hi q => ⟨ys, ys[i], q, by simp [hi]⟩, fun _ q => ⟨ys, q, Nat.le_refl _⟩, fun _ _ _ _ _ q ⟨T, y, e1, e2, e3, e4⟩ => ⟨T, y, e1, e2, e3, e4 ys q⟩⟩
theorem q_iEnT {K : PySem.W.Frag} {ta : TA} {σ : L2.St} {H : Hp} {R : It → Hp → Prop} (h : ta σ H fun vs G => ∃ a ys, vs = [.ref a] ∧ SqT K G a ys ∧ R (Iet K a) G) : iEnT K ta σ H R := h
end Kx
namespace Dm
open PySem PySem.Spec PyProof.Rows L2
theorem tuple_mul1 (l : Addr) (items : Array Value) (n : Nat) (dd : Option Addr) (sl : Array (Option Value)) (u : Tok) :
    Meets (Builtin.«tuple.__mul__» ⟨[.ref l, .int 1 u], []⟩) (fun _ R s => s.heap.get? l = some { cls := .type "tuple", dict := dd, data := .seq items n, slots := sl } ∧
      R (.ok (.ret (Value.ref l))) s) :=
  .of_wp fun prog w A R s h => by
    obtain ⟨hp, g, d, tk, os⟩ := s
    obtain ⟨hl, h⟩ := h
    have f1 := AutoSeq1.idx_int
    wp_walk using wpAny_loadPart' hl
    repeat (first
      | (refine wpAny_ite_false (by decide) ?_; wp_walk using wpAny_loadPart' hl)
      | (refine wpAny_ite_true (by simp) ?_; wp_walk using wpAny_loadPart' hl))
    exact ⟨_, rfl, h⟩
def rRep1 (K : PySem.W.Frag) : R2 := fun x y H Q => ∃ l xs, x = .ref l ∧ y = .int 1 ∧ SqT K H l xs ∧ Q (.ref l) H
theorem op_rep1 {X : Cx} : OpR X (binaryOp .Mult) (rRep1 X.K) := by
  intro pins s σ H x y v u Q I rx ry h
  obtain ⟨l, xs, rfl, rfl, hT, q⟩ := h
  cases rx
  obtain ⟨t, rfl⟩ := ry
  obtain ⟨its, r, ⟨⟨cls, dd, data, sl⟩, ho, hc, n, hd⟩, hs⟩ := I.tuple hT
  simp only at hc hd
  subst hc hd
  refine wpAny_binaryOp_repeat_ref (T := "tuple") (U := "int") (by decide) ⟨_, ho, rfl⟩ (fun s' => typeIs_int s' 1 t) noFill_tuple_mul F.fills_int_mul F.slot_int_rmul repeat_tuple F.slot_int_index.lookup
    (call_meets F.slot_int_rmul (typeIs_int s 1 t) F.entry_int_rmul (F.args_int_rmul_2 _ _) (int_rmul_tuple 1 t l its.toArray n dd sl)
      ⟨ho, rfl, ⟨_, ho, rfl⟩, call_meets F.slot_tuple_mul ⟨_, ho, rfl⟩ F.entry_tuple_mul (F.args_tuple_mul_2 _ _) (tuple_mul1 l its.toArray n dd sl t) ⟨ho, ?_⟩⟩)
  exact ⟨.ref l, H, I, rfl, q⟩
end Dm

namespace Dm
open PySem PySem.Spec PyProof.Rows L2

/-! ### data: what a value tells, whatever its address -/
inductive D where
  | non
  | bl (b : Bool)
  | int (i : Int)
  | str (s : Str)
  | tup (xs : List D)
  | lst (xs : List D)
  /-- a dict: 0 its keys are ints and texts, 1 they are tuples of such -/
  | dct (t : Nat) (ks vs : List D)
  | ins (c : Nat) (ns : List Str) (ds : List D)
  /-- the script, a list that is only read -/
  | scr (ns : List Int)
/-- the written part; the classes by numbers; the attribute of an exception's class -/
structure W where
  K : PySem.W.Frag
  C : Nat → Addr
  an : Nat → Str
def kD : Key → D
  | .inl i => .int i
  | .inr s => .str s
mutual
inductive Rep (w : W) (H : Hp) : V → D → Prop
  | non : Rep w H .non .non
  | bl (b : Bool) : Rep w H (.bl b) (.bl b)
  | int (i : Int) : Rep w H (.int i) (.int i)
  | str (s : Str) : Rep w H (.str s) (.str s)
  | tup {a : Addr} {vs : List V} {ds : List D} : H a = some (.tup vs) → RepAll w H vs ds → Rep w H (.ref a) (.tup ds)
  | lst {a : Addr} {vs : List V} {ds : List D} : H a = some (.lst vs) → RepAll w H vs ds → Rep w H (.ref a) (.lst ds)
  | dK {a : Addr} {kvs : List (Key × V)} {ks vs : List D} : H a = some (.dK kvs) → kvs.map (fun kv => kD kv.1) = ks → RepAll w H (kvs.map fun kv => kv.2) vs → Rep w H (.ref a) (.dct 0 ks vs)
  | dT {a : Addr} {kvs : List (List Key × V)} {ks vs : List D} : H a = some (.dT kvs) → kvs.map (fun kv => D.tup (kv.1.map kD)) = ks → RepAll w H (kvs.map fun kv => kv.2) vs → Rep w H (.ref a) (.dct 1 ks vs)
  | ins {a dx : Addr} {fs : List (Str × V)} {c : Nat} {ns : List Str} {ds : List D} : H a = some (.ins (w.C c) dx fs) → fs.map (fun f => f.1) = ns → RepAll w H (fs.map fun f => f.2) ds → Rep w H (.ref a) (.ins c ns ds)
  | scr {a : Addr} {ns : List Int} : SqL w.K H a (ns.map V.int) → Rep w H (.ref a) (.scr ns)
inductive RepAll (w : W) (H : Hp) : List V → List D → Prop
  | nil : RepAll w H [] []
  | cons {v : V} {vs : List V} {d : D} {ds : List D} : Rep w H v d → RepAll w H vs ds → RepAll w H (v :: vs) (d :: ds)
end
theorem same_sqL {K : PySem.W.Frag} {H H' : Hp} {a : Addr} {xs : List V} (e : Same H H') (h : SqL K H a xs) : SqL K H' a xs := by
  rcases h with (h | ⟨o, h⟩) | h
  · exact .inl (.inl (e _ _ h))
  · exact .inl (.inr ⟨o, e _ _ h⟩)
  · exact .inr h
theorem same_sqT {K : PySem.W.Frag} {H H' : Hp} {a : Addr} {xs : List V} (e : Same H H') (h : SqT K H a xs) : SqT K H' a xs := by
  rcases h with (h | ⟨o, h⟩) | h
  · exact .inl (.inl (e _ _ h))
  · exact .inl (.inr ⟨o, e _ _ h⟩)
  · exact .inr h
section
variable {w : W} {H H' : Hp}
mutual
theorem Rep.mono (e : Same H H') : ∀ (d : D) (v : V), Rep w H v d → Rep w H' v d
  | .non, _, h => by cases h; exact .non
  | .bl b, _, h => by cases h; exact .bl b
  | .int i, _, h => by cases h; exact .int i
  | .str s, _, h => by cases h; exact .str s
  | .tup ds, _, h => by
    cases h with
    | tup h1 h2 => exact .tup (e _ _ h1) (RepAll.mono e ds _ h2)
  | .lst ds, _, h => by
    cases h with
    | lst h1 h2 => exact .lst (e _ _ h1) (RepAll.mono e ds _ h2)
  | .dct t ks vs, _, h => by
    cases h with
    | dK h1 h2 h3 => exact .dK (e _ _ h1) h2 (RepAll.mono e vs _ h3)
    | dT h1 h2 h3 => exact .dT (e _ _ h1) h2 (RepAll.mono e vs _ h3)
  | .ins c ns ds, _, h => by
    cases h with
    | ins h1 h2 h3 => exact .ins (e _ _ h1) h2 (RepAll.mono e ds _ h3)
  | .scr ns, _, h => by
    cases h with
    | scr h1 => exact .scr (same_sqL e h1)
theorem RepAll.mono (e : Same H H') : ∀ (ds : List D) (vs : List V), RepAll w H vs ds → RepAll w H' vs ds
  | [], _, h => by cases h; exact .nil
  | d :: ds, _, h => by
    cases h with
    | cons h1 h2 => exact .cons (Rep.mono e d _ h1) (RepAll.mono e ds _ h2)
end
end
theorem RepAll.len {w : W} {H : Hp} : ∀ {vs : List V} {ds : List D}, RepAll w H vs ds → vs.length = ds.length
  | _, _, .nil => rfl
  | _, _, .cons _ h => by simp [h.len]
theorem RepAll.get {w : W} {H : Hp} : ∀ {vs : List V} {ds : List D} {i : Nat} {d : D}, RepAll w H vs ds → ds[i]? = some d → ∃ v, vs[i]? = some v ∧ Rep w H v d
  | _, _, _, _, .nil, h => by simp at h
  | _, _, 0, _, .cons h _, e => by
    rw [List.getElem?_cons_zero] at e
    cases e
    exact ⟨_, rfl, h⟩
  | _, _, i + 1, _, .cons _ h, e => by
    rw [List.getElem?_cons_succ] at e
    obtain ⟨v, h1, h2⟩ := h.get e
    exact ⟨v, by rw [List.getElem?_cons_succ]; exact h1, h2⟩
theorem RepAll.getV {w : W} {H : Hp} : ∀ {vs : List V} {ds : List D} {i : Nat} {v : V}, RepAll w H vs ds → vs[i]? = some v → ∃ d, ds[i]? = some d ∧ Rep w H v d
  | _, _, _, _, .nil, h => by simp at h
  | _, _, 0, _, .cons h _, e => by
    rw [List.getElem?_cons_zero] at e
    cases e
    exact ⟨_, rfl, h⟩
  | _, _, i + 1, _, .cons _ h, e => by
    rw [List.getElem?_cons_succ] at e
    obtain ⟨v, h1, h2⟩ := h.getV e
    exact ⟨v, by rw [List.getElem?_cons_succ]; exact h1, h2⟩
theorem RepAll.app {w : W} {H : Hp} : ∀ {vs us : List V} {ds es : List D}, RepAll w H vs ds → RepAll w H us es → RepAll w H (vs ++ us) (ds ++ es)
  | _, _, _, _, .nil, k => k
  | _, _, _, _, .cons h1 h2, k => .cons h1 (h2.app k)
theorem RepAll.take {w : W} {H : Hp} : ∀ {vs : List V} {ds : List D} (n : Nat), RepAll w H vs ds → RepAll w H (vs.take n) (ds.take n)
  | _, _, 0, _ => by simpa using RepAll.nil
  | _, _, n + 1, .nil => by simpa using RepAll.nil
  | _, _, n + 1, .cons h1 h2 => by simpa using RepAll.cons h1 (h2.take n)
theorem RepAll.drop {w : W} {H : Hp} : ∀ {vs : List V} {ds : List D} (n : Nat), RepAll w H vs ds → RepAll w H (vs.drop n) (ds.drop n)
  | _, _, 0, h => by simpa using h
  | _, _, n + 1, .nil => by simpa using RepAll.nil
  | _, _, n + 1, .cons _ h2 => by simpa using h2.drop n
theorem RepAll.set {w : W} {H : Hp} : ∀ {vs : List V} {ds : List D} (n : Nat) {v : V} {d : D}, RepAll w H vs ds → Rep w H v d → RepAll w H (vs.set n v) (ds.set n d)
  | _, _, _, _, _, .nil, _ => by simpa using RepAll.nil
  | _, _, 0, _, _, .cons h1 h2, k => by simpa using RepAll.cons k h2
  | _, _, n + 1, _, _, .cons h1 h2, k => by simpa using RepAll.cons h1 (h2.set n k)
theorem RepAll.rev {w : W} {H : Hp} : ∀ {vs : List V} {ds : List D}, RepAll w H vs ds → RepAll w H vs.reverse ds.reverse
  | _, _, .nil => by simpa using RepAll.nil
  | _, _, .cons h1 h2 => by simpa using h2.rev.app (.cons h1 .nil)

/-! ### a heap that grew: F what may be told of, H all -/
structure Ext (F H F' H' : Hp) : Prop where
  f : Same F F'
  h : Same H H'
  i : Same F' H'
  d : ∀ a o, F' a = some o → F a = some o ∨ H a = none
theorem Ext.refl {F H : Hp} (h : Same F H) : Ext F H F H := ⟨.refl _, .refl _, h, fun _ _ e => .inl e⟩
theorem Ext.trans {F H F1 H1 F2 H2 : Hp} (a : Ext F H F1 H1) (b : Ext F1 H1 F2 H2) : Ext F H F2 H2 := ⟨a.f.trans b.f, a.h.trans b.h, b.i, fun x o e => by
  rcases b.d x o e with q | q
  · exact a.d x o q
  · exact .inr (a.h.free q)⟩
/-- a new object that may be told of -/
theorem Ext.new {F H : Hp} {p : Addr} {o : HO} (i : Same F H) (hp : H p = none) : Ext F H (upd F p o) (upd H p o) := by
  have fp := i.free hp
  refine ⟨fun a u e => ?_, fun a u e => ?_, fun a u e => ?_, fun a u e => ?_⟩
  · rw [upd_ne (fun z => by rw [z, fp] at e; cases e)]; exact e
  · rw [upd_ne (fun z => by rw [z, hp] at e; cases e)]; exact e
  · by_cases z : a = p
    · subst z; rw [upd_same] at e ⊢; exact e
    · rw [upd_ne z] at e ⊢; exact i _ _ e
  · by_cases z : a = p
    · subst z; exact .inr hp
    · rw [upd_ne z] at e; exact .inl e
/-- a new object of one's own -/
theorem Ext.mine {F H : Hp} {p : Addr} {o : HO} (i : Same F H) (hp : H p = none) : Ext F H F (upd H p o) := by
  have fp := i.free hp
  refine ⟨.refl _, fun a u e => ?_, fun a u e => ?_, fun a u e => .inl e⟩
  · rw [upd_ne (fun z => by rw [z, hp] at e; cases e)]; exact e
  · rw [upd_ne (fun z => by rw [z, fp] at e; cases e)]; exact i _ _ e

/-! ### an object that only one holds -/
def Own (w : W) (F H : Hp) (p : Addr) : D → Prop
  | .lst ds => ∃ vs, H p = some (.lst vs) ∧ RepAll w F vs ds
  | .dct 0 ks vs => ∃ kvs : List (Key × V), H p = some (.dK kvs) ∧ kvs.map (fun kv => kD kv.1) = ks ∧ RepAll w F (kvs.map fun kv => kv.2) vs
  | .dct 1 ks vs => ∃ kvs : List (List Key × V), H p = some (.dT kvs) ∧ kvs.map (fun kv => D.tup (kv.1.map kD)) = ks ∧ RepAll w F (kvs.map fun kv => kv.2) vs
  | .ins c ns ds => ∃ dx fs, H p = some (.ins (w.C c) dx fs) ∧ fs.map (fun f => f.1) = ns ∧ RepAll w F (fs.map fun f => f.2) ds
  | _ => False
theorem Own.some {w : W} {F H : Hp} {p : Addr} {d : D} (h : Own w F H p d) : ∃ o, H p = some o := by
  unfold Own at h
  split at h
  · obtain ⟨vs, e, _⟩ := h; exact ⟨_, e⟩
  · obtain ⟨vs, e, _⟩ := h; exact ⟨_, e⟩
  · obtain ⟨vs, e, _⟩ := h; exact ⟨_, e⟩
  · obtain ⟨dx, fs, e, _⟩ := h; exact ⟨_, e⟩
  · exact h.elim
theorem Own.keep {w : W} {F F' H H' : Hp} {p : Addr} {d : D} (h : Own w F H p d) (f : Same F F') (e : ∀ o, H p = .some o → H' p = .some o) : Own w F' H' p d := by
  unfold Own at h
  split at h
  · obtain ⟨vs, q, r⟩ := h; exact ⟨vs, e _ q, RepAll.mono f _ _ r⟩
  · obtain ⟨kvs, q, r, s⟩ := h; exact ⟨kvs, e _ q, r, RepAll.mono f _ _ s⟩
  · obtain ⟨kvs, q, r, s⟩ := h; exact ⟨kvs, e _ q, r, RepAll.mono f _ _ s⟩
  · obtain ⟨dx, fs, q, r, s⟩ := h; exact ⟨dx, fs, e _ q, r, RepAll.mono f _ _ s⟩
  · exact h.elim
/-- it is told of from now on -/
def fzn (F H : Hp) (p : Addr) : Hp := fun a => if a = p then H p else F a
theorem fzn_same {F H : Hp} {p : Addr} : fzn F H p p = H p := if_pos rfl
theorem fzn_ne {F H : Hp} {p a : Addr} (h : a ≠ p) : fzn F H p a = F a := if_neg h
theorem fzn_f {F H : Hp} {p : Addr} (i : Same F H) (hp : F p = none) : Same F (fzn F H p) := fun a o e => by
  rw [fzn_ne (fun z => by rw [z, hp] at e; cases e)]; exact e
theorem fzn_h {F H : Hp} {p : Addr} (i : Same F H) : Same (fzn F H p) H := fun a o e => by
  by_cases z : a = p
  · subst z; rw [fzn_same] at e; exact e
  · rw [fzn_ne z] at e; exact i _ _ e
theorem Own.rep {w : W} {F H : Hp} {p : Addr} {d : D} (h : Own w F H p d) (i : Same F H) (hp : F p = none) : Rep w (fzn F H p) (.ref p) d := by
  have f := fzn_f i hp
  unfold Own at h
  split at h
  · obtain ⟨vs, q, r⟩ := h; exact .lst (by rw [fzn_same]; exact q) (RepAll.mono f _ _ r)
  · obtain ⟨kvs, q, r, s⟩ := h; exact .dK (by rw [fzn_same]; exact q) r (RepAll.mono f _ _ s)
  · obtain ⟨kvs, q, r, s⟩ := h; exact .dT (by rw [fzn_same]; exact q) r (RepAll.mono f _ _ s)
  · obtain ⟨dx, fs, q, r, s⟩ := h; exact .ins (by rw [fzn_same]; exact q) r (RepAll.mono f _ _ s)
  · exact h.elim
theorem Own.repH {w : W} {F H : Hp} {p : Addr} {d : D} (h : Own w F H p d) (i : Same F H) : Rep w H (.ref p) d := by
  unfold Own at h
  split at h
  · obtain ⟨vs, q, r⟩ := h; exact .lst q (RepAll.mono i _ _ r)
  · obtain ⟨kvs, q, r, s⟩ := h; exact .dK q r (RepAll.mono i _ _ s)
  · obtain ⟨kvs, q, r, s⟩ := h; exact .dT q r (RepAll.mono i _ _ s)
  · obtain ⟨dx, fs, q, r, s⟩ := h; exact .ins q r (RepAll.mono i _ _ s)
  · exact h.elim

/-! ### the slots -/
inductive Cell where
  | un
  | val (d : D)
  /-- one's own; true: the first argument, which is handed back changed -/
  | own (k : Bool) (d : D)
abbrev DEnv := List Cell
structure Sim (w : W) (z : Addr) (F0 B : Hp) (ρ : DEnv) (σ : L2.St) (H F : Hp) : Prop where
  ext : Ext F0 B F H
  len : σ.length = ρ.length
  val : ∀ (i : Nat) (d : D), ρ[i]? = some (.val d) → ∃ v, σ[i]? = some (some v) ∧ Rep w F v d
  own : ∀ (i : Nat) (k : Bool) (d : D), ρ[i]? = some (.own k d) → ∃ p, σ[i]? = some (some (.ref p)) ∧ F p = none ∧ B p = none ∧ Own w F H p d ∧ (k = true → p = z)
  dis : ∀ (i j : Nat) (k l : Bool) (d e : D) (p : Addr), ρ[i]? = some (.own k d) → ρ[j]? = some (.own l e) → σ[i]? = some (some (.ref p)) → σ[j]? = some (some (.ref p)) → i = j
theorem Sim.grow {w : W} {z : Addr} {F0 B : Hp} {ρ : DEnv} {σ : L2.St} {H F H' F' : Hp} (S : Sim w z F0 B ρ σ H F) (e : Ext F H F' H') : Sim w z F0 B ρ σ H' F' where
  ext := S.ext.trans e
  len := S.len
  val := fun i d h => by
    obtain ⟨v, h1, h2⟩ := S.val i d h
    exact ⟨v, h1, Rep.mono e.f _ _ h2⟩
  own := fun i k d h => by
    obtain ⟨p, h1, h2, h3, h4, h5⟩ := S.own i k d h
    refine ⟨p, h1, ?_, h3, h4.keep e.f fun o q => e.h _ _ q, h5⟩
    obtain ⟨o, ho⟩ := h4.some
    cases q : F' p with
    | none => rfl
    | some u =>
      rcases e.d p u q with z | z
      · rw [h2] at z; cases z
      · rw [ho] at z; cases z
  dis := S.dis

/-! ### outcomes -/
inductive R (α : Type) where
  | ok (a : α) (ρ : DEnv)
  | exc (c : Nat) (x : D)
abbrev M (α : Type) := Option (R α)
def ret {α : Type} (a : α) (ρ : DEnv) : M α := some (.ok a ρ)
def bnd {α β : Type} (o : M α) (k : α → DEnv → M β) : M β := match o with
  | some (.ok a ρ) => k a ρ
  | some (.exc c x) => some (.exc c x)
  | none => none
def wpM {α : Type} (o : M α) (P : α → DEnv → Prop) (X : Nat → D → Prop) : Prop := match o with
  | some (.ok a ρ) => P a ρ
  | some (.exc c x) => X c x
  | none => False
theorem wpM_ret {α : Type} {a : α} {ρ : DEnv} {P : α → DEnv → Prop} {X : Nat → D → Prop} : wpM (ret a ρ) P X = P a ρ := rfl
theorem wpM_bnd {α β : Type} {o : M α} {k : α → DEnv → M β} {P : β → DEnv → Prop} {X : Nat → D → Prop} : wpM (bnd o k) P X = wpM o (fun a ρ => wpM (k a ρ) P X) X := by
  cases o with
  | none => rfl
  | some r => cases r <;> rfl
theorem wpM.mono {α : Type} {o : M α} {P P' : α → DEnv → Prop} {X : Nat → D → Prop} (h : wpM o P X) (k : ∀ a ρ, P a ρ → P' a ρ) : wpM o P' X := by
  cases o with
  | none => exact h
  | some r =>
    cases r with
    | ok a ρ => exact k _ _ h
    | exc c x => exact h

/-- what is wanted where an exception leaves -/
def XP (w : W) (F0 B : Hp) (E : XK) (c : Nat) (x : D) : Prop := ∀ dd v H' F', Ext F0 B F' H' → B dd = none → H' dd = some (.xd [(w.an c, v)]) → Rep w F' v x → E (.ref (w.C c)) (some dd) H'
/-- a value that came: told of, or one's own -/
def RV (w : W) (F0 B : Hp) (ρ : DEnv) (σ : L2.St) (F H : Hp) (v : V) : Cell → Prop
  | .un => False
  | .val d => Rep w F v d
  | .own _ d => ∃ p, v = .ref p ∧ F p = none ∧ B p = none ∧ Own w F H p d ∧ ∀ (i : Nat) (k : Bool) (e : D), ρ[i]? = some (.own k e) → σ[i]? ≠ some (some (.ref p))
/-- a reading of an expression gives what f says -/
def DE (w : W) (E : XK) (te : TE) (f : DEnv → M Cell) : Prop := ∀ z F0 B ρ σ H F Q, Sim w z F0 B ρ σ H F →
  wpM (f ρ) (fun c ρ' => ∀ v H' F', Sim w z F0 B ρ' σ H' F' → Same F F' → RV w F0 B ρ' σ F' H' v c → Q v H') (XP w F0 B E) → te σ H Q
def DV (w : W) (E : XK) (te : TE) (f : DEnv → M D) : Prop := ∀ z F0 B ρ σ H F Q, Sim w z F0 B ρ σ H F →
  wpM (f ρ) (fun d ρ' => ∀ v H' F', Sim w z F0 B ρ' σ H' F' → Same F F' → Rep w F' v d → Q v H') (XP w F0 B E) → te σ H Q
def DT (w : W) (E : XK) (tt : TT) (f : DEnv → M Bool) : Prop := ∀ z F0 B ρ σ H F Q, Sim w z F0 B ρ σ H F →
  wpM (f ρ) (fun b ρ' => ∀ H' F', Sim w z F0 B ρ' σ H' F' → Same F F' → Q b H') (XP w F0 B E) → tt σ H Q
def DA (w : W) (E : XK) (ta : TA) (f : DEnv → M (List D)) : Prop := ∀ z F0 B ρ σ H F Q, Sim w z F0 B ρ σ H F →
  wpM (f ρ) (fun ds ρ' => ∀ vs H' F', Sim w z F0 B ρ' σ H' F' → Same F F' → RepAll w F' vs ds → Q vs H') (XP w F0 B E) → ta σ H Q
def frz (f : DEnv → M Cell) (ρ : DEnv) : M D := bnd (f ρ) fun c ρ => match c with
  | .un => none
  | .val d => ret d ρ
  | .own _ d => ret d ρ
def toC (f : DEnv → M D) (ρ : DEnv) : M Cell := bnd (f ρ) fun d ρ => ret (.val d) ρ
theorem Sim.freeze {w : W} {z : Addr} {F0 B : Hp} {ρ : DEnv} {σ : L2.St} {H F : Hp} {p : Addr} {d : D} (S : Sim w z F0 B ρ σ H F) (hp : F p = none) (hb : B p = none) (hn : ∀ (i : Nat) (k : Bool) (e : D), ρ[i]? = some (.own k e) → σ[i]? ≠ some (some (.ref p))) : Sim w z F0 B ρ σ H (fzn F H p) where
  ext := ⟨S.ext.f.trans (fzn_f S.ext.i hp), S.ext.h, fzn_h S.ext.i, fun a o e => by
    by_cases z : a = p
    · subst z; exact .inr hb
    · rw [fzn_ne z] at e; exact S.ext.d _ _ e⟩
  len := S.len
  val := fun i d h => by
    obtain ⟨v, h1, h2⟩ := S.val i d h
    exact ⟨v, h1, Rep.mono (fzn_f S.ext.i hp) _ _ h2⟩
  own := fun i k d h => by
    obtain ⟨q, h1, h2, h3, h4, h5⟩ := S.own i k d h
    refine ⟨q, h1, ?_, h3, h4.keep (fzn_f S.ext.i hp) fun o z => z, h5⟩
    rw [fzn_ne (fun z => by subst z; exact hn i k d h h1)]
    exact h2
  dis := S.dis
section
variable {w : W} {E : XK} {te : TE} {z : Addr} {F0 B H F : Hp} {ρ : DEnv} {σ : L2.St}
theorem DE.dv {f : DEnv → M Cell} (h : DE w E te f) : DV w E te (frz f) := fun z F0 B ρ σ H F Q S k => by
  refine h z F0 B ρ σ H F Q S ?_
  unfold frz at k
  rw [wpM_bnd] at k
  refine k.mono fun c ρ' y v H' F' S' e r => ?_
  cases c with
  | un => exact r.elim
  | val d => exact y v H' F' S' e r
  | own _ d =>
    obtain ⟨p, rfl, h1, h2, h3, h4⟩ := r
    exact y _ H' (fzn F' H' p) (S'.freeze (d := d) h1 h2 h4) (e.trans (fzn_f S'.ext.i h1)) (h3.rep S'.ext.i h1)
theorem DV.de {f : DEnv → M D} (h : DV w E te f) : DE w E te (toC f) := fun z F0 B ρ σ H F Q S k => by
  refine h z F0 B ρ σ H F Q S ?_
  unfold toC at k
  rw [wpM_bnd] at k
  exact k.mono fun d ρ' y v H' F' S' e r => y v H' F' S' e r
/-- a slot that is told of from now on -/
theorem Sim.freezeAt {i : Nat} {d : D} (S : Sim w z F0 B ρ σ H F) (hi : ρ[i]? = some (.own false d)) : ∃ p, σ[i]? = some (some (.ref p)) ∧ F p = none ∧ Sim w z F0 B (ρ.set i (.val d)) σ H (fzn F H p) ∧ Rep w (fzn F H p) (.ref p) d := by
  obtain ⟨p, h1, h2, h3, h4, _⟩ := S.own i _ d hi
  have r := h4.rep S.ext.i h2
  have lt : i < ρ.length := by
    rw [List.getElem?_eq_some_iff] at hi
    exact hi.1
  refine ⟨p, h1, h2, ⟨⟨S.ext.f.trans (fzn_f S.ext.i h2), S.ext.h, fzn_h S.ext.i, fun a o e => ?_⟩, by rw [List.length_set]; exact S.len, fun j e h => ?_, fun j l e h => ?_, fun j k l m e f q a b c g => ?_⟩, r⟩
  · by_cases z : a = p
    · subst z; exact .inr h3
    · rw [fzn_ne z] at e; exact S.ext.d _ _ e
  · by_cases z : i = j
    · subst z
      rw [List.getElem?_set_self lt] at h
      cases h
      exact ⟨_, h1, r⟩
    · rw [List.getElem?_set_ne z] at h
      obtain ⟨v, q1, q2⟩ := S.val j e h
      exact ⟨v, q1, Rep.mono (fzn_f S.ext.i h2) _ _ q2⟩
  · by_cases z : i = j
    · subst z
      rw [List.getElem?_set_self lt] at h
      cases h
    · rw [List.getElem?_set_ne z] at h
      obtain ⟨q, q1, q2, q3, q4, q5⟩ := S.own j l e h
      refine ⟨q, q1, ?_, q3, q4.keep (fzn_f S.ext.i h2) fun o z => z, q5⟩
      rw [fzn_ne (fun y => by subst y; exact z (S.dis i j _ l d e q hi h h1 q1))]
      exact q2
  · have n : ∀ (m : Nat) (y : Bool) (x : D), (ρ.set i (.val d))[m]? = some (.own y x) → ρ[m]? = some (.own y x) := fun m y x hm => by
      by_cases z : i = m
      · subst z
        rw [List.getElem?_set_self lt] at hm
        cases hm
      · rwa [List.getElem?_set_ne z] at hm
    exact S.dis j k l m e f q (n _ _ _ a) (n _ _ _ b) c g
def mVar (i : Nat) (ρ : DEnv) : M D := match ρ[i]? with
  | some (.val d) => ret d ρ
  | some (.own false d) => ret d (ρ.set i (.val d))
  | _ => none
theorem dv_var {i : Nat} : DV w E (tVar i) (mVar i) := fun z F0 B ρ σ H F Q S k => by
  unfold mVar at k
  split at k
  · rename_i d hi
    obtain ⟨v, h1, h2⟩ := S.val i d hi
    exact ⟨v, h1, k v H F S (.refl _) h2⟩
  · rename_i d hi
    obtain ⟨p, h1, h2, h3, h4⟩ := S.freezeAt hi
    exact ⟨_, h1, k _ H _ h3 (fzn_f S.ext.i h2) h4⟩
  · exact k.elim
/-- one's own goes out of its slot -/
def mMove (i : Nat) (ρ : DEnv) : M Cell := match ρ[i]? with
  | some (.val d) => ret (.val d) ρ
  | some (.own false d) => ret (.own false d) (ρ.set i .un)
  | _ => none
theorem Sim.moveAt {i : Nat} {d : D} (S : Sim w z F0 B ρ σ H F) (hi : ρ[i]? = some (.own false d)) : ∃ p, σ[i]? = some (some (.ref p)) ∧ Sim w z F0 B (ρ.set i .un) σ H F ∧ RV w F0 B (ρ.set i .un) σ F H (.ref p) (.own false d) := by
  obtain ⟨p, h1, h2, h3, h4, _⟩ := S.own i _ d hi
  have lt : i < ρ.length := by
    rw [List.getElem?_eq_some_iff] at hi
    exact hi.1
  have n : ∀ (m : Nat) (c : Cell), c ≠ .un → (ρ.set i .un)[m]? = some c → i ≠ m ∧ ρ[m]? = some c := fun m c hc hm => by
    by_cases z : i = m
    · subst z
      rw [List.getElem?_set_self lt] at hm
      cases hm
      exact absurd rfl hc
    · rw [List.getElem?_set_ne z] at hm
      exact ⟨z, hm⟩
  refine ⟨p, h1, ⟨S.ext, by rw [List.length_set]; exact S.len, fun j e h => S.val j e (n j _ (by simp) h).2, fun j l e h => S.own j l e (n j _ (by simp) h).2, fun j k l m e f q a b c g => S.dis j k l m e f q (n _ _ (by simp) a).2 (n _ _ (by simp) b).2 c g⟩, p, rfl, h2, h3, h4, fun j l e h q => ?_⟩
  obtain ⟨z, h⟩ := n j _ (by simp) h
  exact z (S.dis i j _ l d e p hi h h1 q)
theorem de_move {i : Nat} : DE w E (tVar i) (mMove i) := fun z F0 B ρ σ H F Q S k => by
  unfold mMove at k
  split at k
  · rename_i d hi
    obtain ⟨v, h1, h2⟩ := S.val i d hi
    exact ⟨v, h1, k v H F S (.refl _) h2⟩
  · rename_i d hi
    obtain ⟨p, h1, h2, h3⟩ := S.moveAt hi
    exact ⟨_, h1, k _ H F h2 (.refl _) h3⟩
  · exact k.elim
/-- a constant -/
def mC (d : D) (ρ : DEnv) : M D := ret d ρ
theorem dv_non : DV w E (tC .non) (mC .non) := fun z F0 B ρ σ H F Q S k => k _ H F S (.refl _) .non
theorem dv_bl {b : Bool} : DV w E (tC (.bl b)) (mC (.bl b)) := fun z F0 B ρ σ H F Q S k => k _ H F S (.refl _) (.bl b)
theorem dv_int {i : Int} : DV w E (tC (.int i)) (mC (.int i)) := fun z F0 B ρ σ H F Q S k => k _ H F S (.refl _) (.int i)
theorem dv_str {s : Str} : DV w E (tC (.str s)) (mC (.str s)) := fun z F0 B ρ σ H F Q S k => k _ H F S (.refl _) (.str s)
/-- a written tuple of ints and texts -/
def flatD : V → Option D
  | .non => some .non
  | .bl b => some (.bl b)
  | .int i => some (.int i)
  | .str s => some (.str s)
  | _ => none
/-! ### argument lists -/
def mNil (ρ : DEnv) : M (List D) := ret [] ρ
def mCons (f : DEnv → M D) (g : DEnv → M (List D)) (ρ : DEnv) : M (List D) := bnd (f ρ) fun d ρ => bnd (g ρ) fun ds ρ => ret (d :: ds) ρ
theorem da_nil : DA w E tNil mNil := fun z F0 B ρ σ H F Q S k => k [] H F S (.refl _) .nil
theorem da_cons {tr : TA} {f : DEnv → M D} {g : DEnv → M (List D)} (hf : DV w E te f) (hg : DA w E tr g) : DA w E (tCons te tr) (mCons f g) := fun z F0 B ρ σ H F Q S k => by
  unfold mCons at k
  rw [wpM_bnd] at k
  refine hf z F0 B ρ σ H F _ S (k.mono fun d ρ' y v H' F' S' e r => ?_)
  rw [wpM_bnd] at y
  refine hg z F0 B ρ' σ H' F' _ S' (y.mono fun ds ρ2 z2 vs H2 F2 S2 e2 r2 => ?_)
  exact z2 _ H2 F2 S2 (e.trans e2) (.cons (Rep.mono e2 _ _ r) r2)
end
end Dm

namespace Dm
open PySem PySem.Spec PyProof.Rows L2

def wpO {α : Type} (o : Option α) (P : α → Prop) : Prop := match o with
  | some a => P a
  | none => False
theorem wpO.mono {α : Type} {o : Option α} {P P' : α → Prop} (h : wpO o P) (k : ∀ a, P a → P' a) : wpO o P' := by
  cases o with
  | none => exact h
  | some a => exact k _ h
/-- a new value's cell -/
def RN (w : W) (F H F' H' : Hp) (v : V) : Cell → Prop
  | .un => False
  | .val d => Rep w F' v d
  | .own k d => k = false ∧ ∃ p, v = .ref p ∧ H p = none ∧ F' p = none ∧ Own w F' H' p d
def Res (w : W) (F H : Hp) (Q : VK) (c : Cell) : Prop := ∀ v H' F', Ext F H F' H' → RN w F H F' H' v c → Q v H'
def D2 (w : W) (r : R2) (g : D → D → Option Cell) : Prop := ∀ F H x y d e Q, Same F H → Rep w F x d → Rep w F y e → wpO (g d e) (Res w F H Q) → r x y H Q
def D1 (w : W) (r : V → Hp → VK → Prop) (g : D → Option Cell) : Prop := ∀ F H x d Q, Same F H → Rep w F x d → wpO (g d) (Res w F H Q) → r x H Q
def DB (w : W) (r : List V → Hp → VK → Prop) (g : List D → Option Cell) : Prop := ∀ F H vs ds Q, Same F H → RepAll w F vs ds → wpO (g ds) (Res w F H Q) → r vs H Q
def DM (w : W) (r : V → List V → Hp → VK → Prop) (g : D → List D → Option Cell) : Prop := ∀ F H x vs d ds Q, Same F H → Rep w F x d → RepAll w F vs ds → wpO (g d ds) (Res w F H Q) → r x vs H Q
def up (o : Option Cell) (ρ : DEnv) : M Cell := match o with
  | some c => ret c ρ
  | none => none
theorem wpM_up {o : Option Cell} {ρ : DEnv} {P : Cell → DEnv → Prop} {X : Nat → D → Prop} : wpM (up o ρ) P X = wpO o (fun c => P c ρ) := by cases o <;> rfl
section
variable {w : W} {E : XK} {z : Addr} {F0 B : Hp} {ρ : DEnv} {σ : L2.St} {F H F' H' : Hp} {v : V} {c : Cell}
theorem Sim.rv (S : Sim w z F0 B ρ σ H F) (e : Ext F H F' H') (r : RN w F H F' H' v c) : RV w F0 B ρ σ F' H' v c := by
  cases c with
  | un => exact r
  | val d => exact r
  | own _ d =>
    obtain ⟨_, p, h1, h2, h3, h4⟩ := r
    refine ⟨p, h1, h3, S.ext.h.free h2, h4, fun i k e h q => ?_⟩
    obtain ⟨p', g1, g2, g3, g4, _⟩ := S.own i k e h
    rw [g1] at q
    cases q
    obtain ⟨o, ho⟩ := g4.some
    rw [h2] at ho
    cases ho
theorem Res.fin {Q : VK} (S : Sim w z F0 B ρ σ H F) (k : ∀ v H' F', Sim w z F0 B ρ σ H' F' → Same F F' → RV w F0 B ρ σ F' H' v c → Q v H') : Res w F H Q c := fun v H' F' e r => k v H' F' (S.grow e) e.f (S.rv e r)
def mOp (g : D → D → Option Cell) (f1 f2 : DEnv → M D) (ρ : DEnv) : M Cell := bnd (f1 ρ) fun d ρ => bnd (f2 ρ) fun e ρ => up (g d e) ρ
theorem de_op {r : R2} {g : D → D → Option Cell} {ta tb : TE} {f1 f2 : DEnv → M D} (hg : D2 w r g) (h1 : DV w E ta f1) (h2 : DV w E tb f2) : DE w E (tOp r ta tb) (mOp g f1 f2) := fun z F0 B ρ σ H F Q S k => by
  unfold mOp at k
  rw [wpM_bnd] at k
  refine h1 z F0 B ρ σ H F _ S (k.mono fun d ρ1 y x H1 F1 S1 e1 r1 => ?_)
  rw [wpM_bnd] at y
  refine h2 z F0 B ρ1 σ H1 F1 _ S1 (y.mono fun e ρ2 z2 y H2 F2 S2 e2 r2 => ?_)
  rw [wpM_up] at z2
  exact hg F2 H2 x y d e Q S2.ext.i (Rep.mono e2 _ _ r1) r2 (z2.mono fun c k2 => Res.fin S2 fun v H' F' S' e' r' => k2 v H' F' S' (e1.trans (e2.trans e')) r')
def mUn (g : D → Option Cell) (f1 : DEnv → M D) (ρ : DEnv) : M Cell := bnd (f1 ρ) fun d ρ => up (g d) ρ
theorem de_un {r : V → Hp → VK → Prop} {g : D → Option Cell} {ta : TE} {f1 : DEnv → M D} (hg : D1 w r g) (h1 : DV w E ta f1) : DE w E (tUn r ta) (mUn g f1) := fun z F0 B ρ σ H F Q S k => by
  unfold mUn at k
  rw [wpM_bnd] at k
  refine h1 z F0 B ρ σ H F _ S (k.mono fun d ρ1 y x H1 F1 S1 e1 r1 => ?_)
  rw [wpM_up] at y
  exact hg F1 H1 x d Q S1.ext.i r1 (y.mono fun c k2 => Res.fin S1 fun v H' F' S' e' r' => k2 v H' F' S' (e1.trans e') r')
def mCB (g : List D → Option Cell) (f : DEnv → M (List D)) (ρ : DEnv) : M Cell := bnd (f ρ) fun ds ρ => up (g ds) ρ
theorem de_cb {r : List V → Hp → VK → Prop} {g : List D → Option Cell} {ta : TA} {f : DEnv → M (List D)} (hg : DB w r g) (h1 : DA w E ta f) : DE w E (tCB r ta) (mCB g f) := fun z F0 B ρ σ H F Q S k => by
  unfold mCB at k
  rw [wpM_bnd] at k
  refine h1 z F0 B ρ σ H F _ S (k.mono fun d ρ1 y x H1 F1 S1 e1 r1 => ?_)
  rw [wpM_up] at y
  exact hg F1 H1 x d Q S1.ext.i r1 (y.mono fun c k2 => Res.fin S1 fun v H' F' S' e' r' => k2 v H' F' S' (e1.trans e') r')
/-- a builtin's method -/
def mBM (T : String) (g : D → List D → Option Cell) (f1 : DEnv → M D) (f : DEnv → M (List D)) (ρ : DEnv) : M Cell := bnd (f1 ρ) fun d ρ => bnd (f ρ) fun ds ρ => up (g d ds) ρ
theorem Res.val0 {Q : VK} {d : D} (h : Res w F H Q (.val d)) (i : Same F H) (r : Rep w F v d) : Q v H := h v H F (.refl i) r
theorem Res.new {Q : VK} {d : D} (h : Res w F H Q (.val d)) (i : Same F H) {p : Addr} {o : HO} (hp : H p = none) (r : Rep w (upd F p o) (.ref p) d) : Q (.ref p) (upd H p o) := h _ _ _ (Ext.new i hp) r
theorem Res.mine {Q : VK} {d : D} (h : Res w F H Q (.own false d)) (i : Same F H) {p : Addr} {o : HO} (hp : H p = none) (r : Own w F (upd H p o) p d) : Q (.ref p) (upd H p o) := h _ _ _ (Ext.mine i hp) ⟨rfl, p, rfl, hp, i.free hp, r⟩
theorem repAll_new {F : Hp} {p : Addr} {o : HO} {vs : List V} {ds : List D} (hp : F p = none) (r : RepAll w F vs ds) : RepAll w (upd F p o) vs ds := RepAll.mono (fun a u e => by
  rw [upd_ne (fun z => by rw [z, hp] at e; cases e)]; exact e) _ _ r
theorem Res.newTup {Q : VK} {vs : List V} {ds : List D} (h : Res w F H Q (.val (.tup ds))) (i : Same F H) {p : Addr} (hp : H p = none) (r : RepAll w F vs ds) : Q (.ref p) (upd H p (.tup vs)) :=
  h.new i hp (.tup upd_same (repAll_new (i.free hp) r))
theorem Res.newLst {Q : VK} {vs : List V} {ds : List D} (h : Res w F H Q (.own false (.lst ds))) (i : Same F H) {p : Addr} (hp : H p = none) (r : RepAll w F vs ds) : Q (.ref p) (upd H p (.lst vs)) :=
  h.mine i hp ⟨vs, upd_same, r⟩
end
def cI (i : Int) : Option Cell := some (.val (.int i))
def cB (b : Bool) : Option Cell := some (.val (.bl b))
def cS (s : Str) : Option Cell := some (.val (.str s))
/-- the greatest length that is reckoned with -/
def big : Nat := 1000000
theorem big_le {n : Nat} (h : n ≤ big) : n ≤ sizeLine := Nat.le_trans h (by decide)

/-! ### + -/
def gAdd : D → D → Option Cell
  | .int i, .int j => cI (i + j)
  | .str a, .str b => if a.length + b.length ≤ big then cS (a ++ b) else none
  | .lst xs, .lst ys => if xs.length + ys.length ≤ big then some (.own false (.lst (xs ++ ys))) else none
  | .tup xs, .tup ys => if xs.length + ys.length ≤ big then some (.val (.tup (xs ++ ys))) else none
  | _, _ => none
theorem sqT {K : PySem.W.Frag} {H : Hp} {a : Addr} {vs : List V} (h : H a = some (.tup vs)) : SqT K H a vs := .inl (.inl h)
theorem sqL {K : PySem.W.Frag} {H : Hp} {a : Addr} {vs : List V} (h : H a = some (.lst vs)) : SqL K H a vs := .inl (.inl h)
def rAddD (K : PySem.W.Frag) : R2 := fun x y H Q => rI0 (fun i j => .int (i + j)) x y H Q ∨ (∃ i j, x = .str i ∧ y = .str j ∧ i.length + j.length ≤ sizeLine ∧ Q (.str (i ++ j)) H) ∨ rCat x y H Q ∨ rCatA K x y H Q
theorem op_addD {X : Cx} {K : PySem.W.Frag} (hK : X.K = K) : OpR X (binaryOp .Add) (rAddD K) := by
  subst hK
  exact op_add.or (op_add_str.or (op_cat.or op_catA))
section
variable {w : W}
theorem wpO_if {p : Prop} [Decidable p] {α : Type} {a : α} {P : α → Prop} (h : wpO (if p then some a else none) P) : p ∧ P a := by
  by_cases q : p
  · rw [if_pos q] at h; exact ⟨q, h⟩
  · rw [if_neg q] at h; exact h.elim
theorem d2_add : D2 w (rAddD w.K) gAdd := fun F H x y d e Q i rx ry h => by
  cases d <;> cases e <;> first | exact h.elim | skip
  · cases rx; cases ry
    exact .inl ⟨_, _, rfl, rfl, Res.val0 h i (.int _)⟩
  · cases rx; cases ry
    obtain ⟨hl, h⟩ := wpO_if h
    exact .inr (.inl ⟨_, _, rfl, rfl, big_le hl, Res.val0 h i (.str _)⟩)
  · obtain ⟨hl, h⟩ := wpO_if h
    cases rx with
    | tup hx rx =>
      cases ry with
      | tup hy ry =>
        have l1 := rx.len
        have l2 := ry.len
        refine .inr (.inr (.inr ⟨_, _, _, _, rfl, rfl, sqT (i _ _ hx), sqT (i _ _ hy), big_le (by rw [l1, l2]; exact hl), fun z => ?_, fun _ z => ?_, fun _ _ p hp => ?_⟩))
        · subst z
          cases rx
          exact Res.val0 h i (.tup hy ry)
        · subst z
          cases ry
          rw [List.append_nil] at h
          exact Res.val0 h i (.tup hx rx)
        · exact Res.newTup h i hp (rx.app ry)
  · obtain ⟨hl, h⟩ := wpO_if h
    cases rx with
    | lst hx rx =>
      cases ry with
      | lst hy ry =>
        have l1 := rx.len
        have l2 := ry.len
        exact .inr (.inr (.inl ⟨_, _, _, _, rfl, rfl, i _ _ hx, i _ _ hy, big_le (by rw [l1, l2]; exact hl), fun p hp => Res.newLst h i hp (rx.app ry)⟩))
/-! ### - * // % ** -/
def gMinus : D → D → Option Cell
  | .int i, .int j => cI (i - j)
  | _, _ => none
theorem d2_sub : D2 w (rI0 fun i j => .int (i - j)) gMinus := fun F H x y d e Q i rx ry h => by
  cases d <;> cases e <;> first | exact h.elim | skip
  cases rx; cases ry
  exact ⟨_, _, rfl, rfl, Res.val0 h i (.int _)⟩
theorem d1_neg : D1 w (rU fun i => .int (-i)) (fun d => match d with | .int i => cI (-i) | _ => none) := fun F H x d Q i rx h => by
  cases d <;> first | exact h.elim | skip
  cases rx
  exact ⟨_, rfl, Res.val0 h i (.int _)⟩
def gMod : D → D → Option Cell
  | .int i, .int j => if 0 < j then cI (i % j) else none
  | _, _ => none
theorem d2_mod : D2 w (rI (fun _ j => 0 < j) fun i j => .int (i % j)) gMod := fun F H x y d e Q i rx ry h => by
  cases d <;> cases e <;> first | exact h.elim | skip
  cases rx; cases ry
  obtain ⟨hl, h⟩ := wpO_if h
  exact ⟨_, _, rfl, rfl, hl, Res.val0 h i (.int _)⟩
def gDiv : D → D → Option Cell
  | .int i, .int j => if 0 < j ∧ j < 1073741824 then cI (i / j) else none
  | _, _ => none
theorem d2_div : D2 w (rI CDiv fun i j => .int (i / j)) gDiv := fun F H x y d e Q i rx ry h => by
  cases d <;> cases e <;> first | exact h.elim | skip
  cases rx; cases ry
  obtain ⟨hl, h⟩ := wpO_if h
  exact ⟨_, _, rfl, rfl, hl, Res.val0 h i (.int _)⟩
def gPow : D → D → Option Cell
  | .int i, .int j => if 0 ≤ j ∧ j ≤ 1000000 ∧ i.natAbs < 2 ^ 64 then cI (i ^ j.toNat) else none
  | _, _ => none
theorem d2_pow : D2 w (rI CPow fun i j => .int (i ^ j.toNat)) gPow := fun F H x y d e Q i rx ry h => by
  cases d <;> cases e <;> first | exact h.elim | skip
  cases rx; cases ry
  obtain ⟨hl, h⟩ := wpO_if h
  exact ⟨_, _, rfl, rfl, hl, Res.val0 h i (.int _)⟩
def repN {α : Type} (n : Nat) (xs : List α) : List α := (List.replicate n xs).flatten
theorem RepAll.rep {F : Hp} {vs : List V} {ds : List D} (r : RepAll w F vs ds) : ∀ n, RepAll w F (repN n vs) (repN n ds)
  | 0 => .nil
  | n + 1 => by
    have := r.app (RepAll.rep r n)
    simpa [repN, List.replicate_succ] using this
def gMul : D → D → Option Cell
  | .int i, .int j => if (-(2 ^ 64) < i ∧ i < 2 ^ 64) ∨ (-(2 ^ 64) < j ∧ j < 2 ^ 64) then cI (i * j) else none
  | .lst xs, .int k => if (-1000000 ≤ k ∧ k ≤ 1000000) ∧ xs.length * k.toNat ≤ big then some (.own false (.lst (repN k.toNat xs))) else none
  | .tup xs, .int k => if k = 1 then some (.val (.tup xs)) else if (2 ≤ k ∧ k ≤ 1000) ∧ xs.length ≤ 1000 ∧ xs.length ≠ 0 then some (.val (.tup (repN k.toNat xs))) else none
  | _, _ => none
def rMulD (K : PySem.W.Frag) : R2 := fun x y H Q => rI CMul (fun i j => .int (i * j)) x y H Q ∨ rRep x y H Q ∨ rRepT K x y H Q ∨ rRep1 K x y H Q
theorem op_mulD {X : Cx} {K : PySem.W.Frag} (hK : X.K = K) : OpR X (binaryOp .Mult) (rMulD K) := by
  subst hK
  exact op_mul.or (op_rep.or (op_repT.or op_rep1))
theorem d2_mul : D2 w (rMulD w.K) gMul := fun F H x y d e Q i rx ry h => by
  cases d <;> cases e <;> first | exact h.elim | skip
  · cases rx; cases ry
    obtain ⟨hl, h⟩ := wpO_if h
    exact .inl ⟨_, _, rfl, rfl, hl, Res.val0 h i (.int _)⟩
  · rename_i xs k
    by_cases k1 : k = (1 : Int)
    · have h := (show wpO (if k = (1 : Int) then _ else _) _ from h)
      rw [if_pos k1] at h
      cases rx with
      | tup hx rx =>
        cases ry
        subst k1
        exact .inr (.inr (.inr ⟨_, _, rfl, rfl, sqT (i _ _ hx), Res.val0 h i (.tup hx rx)⟩))
    have h := (show wpO (if k = (1 : Int) then _ else _) _ from h)
    rw [if_neg k1] at h
    obtain ⟨hl, h⟩ := wpO_if h
    cases rx with
    | tup hx rx =>
      cases ry
      have l1 := rx.len
      refine .inr (.inr (.inl ⟨_, _, _, rfl, rfl, sqT (i _ _ hx), fun z => hl.2.2 (by rw [← l1, z]; rfl), hl.1.1, hl.1.2, by rw [l1]; exact hl.2.1, fun p hp => Res.newTup h i hp (rx.rep _)⟩))
  · obtain ⟨hl, h⟩ := wpO_if h
    cases rx with
    | lst hx rx =>
      cases ry
      have l1 := rx.len
      exact .inr (.inl ⟨_, _, _, rfl, rfl, i _ _ hx, by omega, by omega, big_le (by rw [l1]; exact hl.2), fun p hp => Res.newLst h i hp (rx.rep _)⟩)
/-! ### comparisons -/
def gCmp (p : Int → Int → Bool) : D → D → Option Cell
  | .int i, .int j => cB (p i j)
  | _, _ => none
theorem d2_cmp {p : Int → Int → Bool} : D2 w (rI0 fun i j => .bl (p i j)) (gCmp p) := fun F H x y d e Q i rx ry h => by
  cases d <;> cases e <;> first | exact h.elim | skip
  cases rx; cases ry
  exact ⟨_, _, rfl, rfl, Res.val0 h i (.bl _)⟩
def gLtD : D → D → Option Cell
  | .int i, .int j => cB (decide (i < j))
  | .str a, .str b => cB (decide (a.cps.toList < b.cps.toList))
  | _, _ => none
def rLtD : R2 := fun x y H Q => rI0 (fun i j => .bl (decide (i < j))) x y H Q ∨ (∃ i j, x = .str i ∧ y = .str j ∧ Q (.bl (decide (i.cps.toList < j.cps.toList))) H)
theorem op_ltD {X : Cx} : OpR X (compareOp .Lt) rLtD := op_lt.or op_lt_str
theorem d2_lt : D2 w rLtD gLtD := fun F H x y d e Q i rx ry h => by
  cases d <;> cases e <;> first | exact h.elim | skip
  · cases rx; cases ry
    exact .inl ⟨_, _, rfl, rfl, Res.val0 h i (.bl _)⟩
  · cases rx; cases ry
    exact .inr ⟨_, _, rfl, rfl, Res.val0 h i (.bl _)⟩
mutual
def toPy : D → Option PyData
  | .non => some .none
  | .bl b => some (.bool b)
  | .int i => some (.int i)
  | .str s => some (.str s)
  | .tup ds => (toPys ds).map .tuple
  | .lst ds => (toPys ds).map .list
  | .dct _ _ _ => none
  | .ins _ _ _ => none
  | .scr _ => none
def toPys : List D → Option (List PyData)
  | [] => some []
  | d :: ds => (toPy d).bind fun p => (toPys ds).map fun ps => p :: ps
end
mutual
theorem Rep.dp {F : Hp} : ∀ (d : D) (v : V) (p : PyData), Rep w F v d → toPy d = some p → Dp w.K F v p
  | .non, _, _, h, e => by cases h; simp only [toPy] at e; cases e; exact .non
  | .bl b, _, _, h, e => by cases h; simp only [toPy] at e; cases e; exact .bl b
  | .int b, _, _, h, e => by cases h; simp only [toPy] at e; cases e; exact .int b
  | .str b, _, _, h, e => by cases h; simp only [toPy] at e; cases e; exact .str b
  | .tup ds, _, _, h, e => by
    simp only [toPy] at e
    cases q : toPys ds with
    | none => rw [q] at e; cases e
    | some ps =>
      rw [q] at e
      cases e
      cases h with
      | tup h1 h2 => exact .tup (sqT h1) (RepAll.dp ds _ _ h2 q)
  | .lst ds, _, _, h, e => by
    simp only [toPy] at e
    cases q : toPys ds with
    | none => rw [q] at e; cases e
    | some ps =>
      rw [q] at e
      cases e
      cases h with
      | lst h1 h2 => exact .lst (.inl (.inl h1)) (RepAll.dp ds _ _ h2 q)
  | .dct _ _ _, _, _, _, e => by simp only [toPy] at e; cases e
  | .ins _ _ _, _, _, _, e => by simp only [toPy] at e; cases e
  | .scr _, _, _, _, e => by simp only [toPy] at e; cases e
theorem RepAll.dp {F : Hp} : ∀ (ds : List D) (vs : List V) (ps : List PyData), RepAll w F vs ds → toPys ds = some ps → DpAll w.K F vs ps
  | [], _, _, h, e => by cases h; simp only [toPys] at e; cases e; exact .nil
  | d :: ds, _, _, h, e => by
    cases h with
    | cons h1 h2 =>
      simp only [toPys] at e
      cases q : toPy d with
      | none => rw [q] at e; cases e
      | some p =>
        rw [q] at e
        cases q2 : toPys ds with
        | none => rw [q2] at e; cases e
        | some ps =>
          rw [q2] at e
          cases e
          exact .cons (Rep.dp d _ _ h1 q) (RepAll.dp ds _ _ h2 q2)
end
/-- == of data -/
def eqD : D → D → Option Bool
  | .int i, .int j => some (i == j)
  | .bl i, .bl j => some (i == j)
  | .str i, .str j => some (i == j)
  | .non, .non => some true
  | .non, .int _ => some false
  | .int _, .non => some false
  | .non, .bl _ => some false
  | .bl _, .non => some false
  | .non, .str _ => some false
  | .str _, .non => some false
  | .int _, .str _ => some false
  | .str _, .int _ => some false
  | .bl _, .str _ => some false
  | .str _, .bl _ => some false
  | d, e => match toPy d, toPy e with
    | some p, some q => if SeqAt.shaped p = true ∧ SeqAt.shaped q = true then some (PyData.eqv p q) else none
    | _, _ => none
def rEqK (K : PySem.W.Frag) : R2 := fun x y H Q => rEq x y H Q ∨ rEqD K x y H Q
def rNeK (K : PySem.W.Frag) : R2 := fun x y H Q => rNe x y H Q ∨ rNeD K x y H Q
theorem op_eqK {X : Cx} {K : PySem.W.Frag} (hK : X.K = K) (hu : X.A.units + 64 < cLine) : OpR X (compareOp .Eq) (rEqK K) := by
  subst hK
  exact op_eq.or (op_eqD hu)
theorem op_neK {X : Cx} {K : PySem.W.Frag} (hK : X.K = K) (hu : X.A.units + 64 < cLine) : OpR X (compareOp .NotEq) (rNeK K) := by
  subst hK
  exact op_ne.or (op_neD hu)
def gEq (d e : D) : Option Cell := (eqD d e).map fun b => .val (.bl b)
def gNe (d e : D) : Option Cell := (eqD d e).map fun b => .val (.bl (!b))
theorem Same.dp {F H : Hp} (i : Same F H) {d : D} {v : V} {p : PyData} (r : Rep w F v d) (e : toPy d = some p) : Dp w.K H v p := Rep.dp d v p (Rep.mono i _ _ r) e
/-- two ways of == -/
theorem eqD_cases {F H : Hp} (i : Same F H) {x y : V} {d e : D} {b : Bool} (rx : Rep w F x d) (ry : Rep w F y e) (h : eqD d e = some b) :
    (scal x y = true ∧ decide (x = y) = b) ∨ ∃ p q, Dp w.K H x p ∧ Dp w.K H y q ∧ SeqAt.shaped p = true ∧ SeqAt.shaped q = true ∧ PyData.eqv p q = b := by
  unfold eqD at h
  split at h
  case h_15 =>
    split at h
    · rename_i p q hp hq
      split at h
      · rename_i hs
        exact .inr ⟨p, q, Same.dp i rx hp, Same.dp i ry hq, hs.1, hs.2, by cases h; rfl⟩
      · cases h
    · cases h
  all_goals (cases rx; cases ry; cases h; exact .inl ⟨rfl, by first | rfl | exact dec_int | exact dec_bl | exact dec_str | simp⟩)
theorem wpO_map {α β : Type} {o : Option α} {f : α → β} {P : β → Prop} (h : wpO (o.map f) P) : ∃ a, o = some a ∧ P (f a) := by
  cases o with
  | none => exact h.elim
  | some a => exact ⟨a, rfl, h⟩
theorem d2_eq : D2 w (rEqK w.K) gEq := fun F H x y d e Q i rx ry h => by
  obtain ⟨b, hb, h⟩ := wpO_map h
  rcases eqD_cases i rx ry hb with ⟨h1, h2⟩ | ⟨p, q, h1, h2, h3, h4, h5⟩
  · exact .inl ⟨h1, by rw [h2]; exact Res.val0 h i (.bl _)⟩
  · exact .inr ⟨p, q, h1, h2, h3, h4, by rw [h5]; exact Res.val0 h i (.bl _)⟩
theorem d2_ne : D2 w (rNeK w.K) gNe := fun F H x y d e Q i rx ry h => by
  obtain ⟨b, hb, h⟩ := wpO_map h
  rcases eqD_cases i rx ry hb with ⟨h1, h2⟩ | ⟨p, q, h1, h2, h3, h4, h5⟩
  · exact .inl ⟨h1, by rw [h2]; exact Res.val0 h i (.bl _)⟩
  · exact .inr ⟨p, q, h1, h2, h3, h4, by rw [h5]; exact Res.val0 h i (.bl _)⟩
/-! ### is -/
def isNonD : D → Bool
  | .non => true
  | _ => false
theorem isNon_of {F : Hp} {x : V} {d : D} (r : Rep w F x d) : decide (x = .non) = isNonD d := by
  cases r <;> simp [isNonD]
theorem d2_isN : D2 w (fun x y H Q => y = .non ∧ Q (.bl (decide (x = .non))) H) (fun d e => if isNonD e = true then cB (isNonD d) else none) := fun F H x y d e Q i rx ry h => by
  obtain ⟨hl, h⟩ := wpO_if h
  have := isNon_of ry
  rw [hl] at this
  exact ⟨of_decide_eq_true this, by rw [isNon_of rx]; exact Res.val0 h i (.bl _)⟩
theorem d2_notN : D2 w (fun x y H Q => y = .non ∧ Q (.bl (!decide (x = .non))) H) (fun d e => if isNonD e = true then cB (!isNonD d) else none) := fun F H x y d e Q i rx ry h => by
  obtain ⟨hl, h⟩ := wpO_if h
  have := isNon_of ry
  rw [hl] at this
  exact ⟨of_decide_eq_true this, by rw [isNon_of rx]; exact Res.val0 h i (.bl _)⟩
end
end Dm

namespace Dm
open PySem PySem.Spec PyProof.Rows L2
/-! ### tests -/
section
variable {w : W} {E : XK} {te ta tb tc : TE} {tt uu : TT}
def mTest (f : DEnv → M D) (ρ : DEnv) : M Bool := bnd (f ρ) fun d ρ => match d with
  | .bl b => ret b ρ
  | _ => none
theorem Rep.bl_eq {F : Hp} {v : V} {b : Bool} (r : Rep w F v (.bl b)) : v = .bl b := by cases r; rfl
theorem test_core {f : DEnv → M D} (h : DV w E te f) {z : Addr} {F0 B : Hp} {ρ : DEnv} {σ : L2.St} {H F : Hp} {Q : Bool → Hp → Prop} (S : Sim w z F0 B ρ σ H F)
    (k : wpM (mTest f ρ) (fun b ρ' => ∀ H' F', Sim w z F0 B ρ' σ H' F' → Same F F' → Q b H') (XP w F0 B E)) : te σ H fun x H1 => ∃ k, x = .bl k ∧ Q k H1 := by
  unfold mTest at k
  rw [wpM_bnd] at k
  refine h z F0 B ρ σ H F _ S (k.mono fun d ρ' y v H' F' S' e r => ?_)
  cases d <;> first | exact y.elim | skip
  exact ⟨_, r.bl_eq, y H' F' S' e⟩
theorem dt_test {f : DEnv → M D} (h : DV w E te f) : DT w E (tTest te) (mTest f) := fun _ _ _ _ _ _ _ _ S k => test_core h S k
theorem dt_B {f : DEnv → M D} (h : DV w E te f) : DT w E (tB te) (mTest f) := fun _ _ _ _ _ _ _ _ S k => test_core h S k
def mAnd (f g : DEnv → M Bool) (ρ : DEnv) : M Bool := bnd (f ρ) fun b ρ => if b = true then g ρ else ret false ρ
def mOr (f g : DEnv → M Bool) (ρ : DEnv) : M Bool := bnd (f ρ) fun b ρ => if b = true then ret true ρ else g ρ
def mNot (f : DEnv → M Bool) (ρ : DEnv) : M Bool := bnd (f ρ) fun b ρ => ret (!b) ρ
theorem dt_and {f g : DEnv → M Bool} (h1 : DT w E tt f) (h2 : DT w E uu g) : DT w E (tAnd tt uu) (mAnd f g) := fun z F0 B ρ σ H F Q S k => by
  unfold mAnd at k
  rw [wpM_bnd] at k
  refine h1 z F0 B ρ σ H F _ S (k.mono fun b ρ' y H' F' S' e => ?_)
  cases b
  · rw [if_neg Bool.false_ne_true] at y ⊢
    exact y H' F' S' e
  · rw [if_pos rfl] at y ⊢
    exact h2 z F0 B ρ' σ H' F' Q S' (y.mono fun b ρ2 z2 H2 F2 S2 e2 => z2 H2 F2 S2 (e.trans e2))
theorem dt_or {f g : DEnv → M Bool} (h1 : DT w E tt f) (h2 : DT w E uu g) : DT w E (tOr tt uu) (mOr f g) := fun z F0 B ρ σ H F Q S k => by
  unfold mOr at k
  rw [wpM_bnd] at k
  refine h1 z F0 B ρ σ H F _ S (k.mono fun b ρ' y H' F' S' e => ?_)
  cases b
  · rw [if_neg Bool.false_ne_true] at y ⊢
    exact h2 z F0 B ρ' σ H' F' Q S' (y.mono fun b ρ2 z2 H2 F2 S2 e2 => z2 H2 F2 S2 (e.trans e2))
  · rw [if_pos rfl] at y ⊢
    exact y H' F' S' e
theorem dt_not {f : DEnv → M Bool} (h1 : DT w E tt f) : DT w E (tNot tt) (mNot f) := fun z F0 B ρ σ H F Q S k => by
  unfold mNot at k
  rw [wpM_bnd] at k
  exact h1 z F0 B ρ σ H F _ S (k.mono fun b ρ' y H' F' S' e => y H' F' S' e)
theorem dt_yes : DT w E tYes (fun ρ => ret true ρ) := fun z F0 B ρ σ H F Q S k => k H F S (.refl _)
/-- values of truth -/
def mBl (f : DEnv → M Bool) (ρ : DEnv) : M D := bnd (f ρ) fun b ρ => ret (.bl b) ρ
theorem dv_and {f g : DEnv → M D} (h1 : DV w E ta f) (h2 : DV w E tb g) : DV w E (tAndV ta tb) (fun ρ => bnd (mTest f ρ) fun b ρ => if b = true then g ρ else ret (.bl false) ρ) := fun z F0 B ρ σ H F Q S k => by
  rw [wpM_bnd] at k
  refine test_core (Q := fun b H1 => if b = true then tb σ H1 Q else Q (.bl false) H1) h1 S (k.mono fun b ρ' y H' F' S' e => ?_)
  cases b
  · rw [if_neg Bool.false_ne_true] at y ⊢
    exact y _ H' F' S' e (.bl false)
  · rw [if_pos rfl] at y ⊢
    exact h2 z F0 B ρ' σ H' F' Q S' (y.mono fun b ρ2 z2 v H2 F2 S2 e2 r => z2 v H2 F2 S2 (e.trans e2) r)
theorem dv_or {f g : DEnv → M D} (h1 : DV w E ta f) (h2 : DV w E tb g) : DV w E (tOrV ta tb) (fun ρ => bnd (mTest f ρ) fun b ρ => if b = true then ret (.bl true) ρ else g ρ) := fun z F0 B ρ σ H F Q S k => by
  rw [wpM_bnd] at k
  refine test_core (Q := fun b H1 => if b = true then Q (.bl true) H1 else tb σ H1 Q) h1 S (k.mono fun b ρ' y H' F' S' e => ?_)
  cases b
  · rw [if_neg Bool.false_ne_true] at y ⊢
    exact h2 z F0 B ρ' σ H' F' Q S' (y.mono fun b ρ2 z2 v H2 F2 S2 e2 r => z2 v H2 F2 S2 (e.trans e2) r)
  · rw [if_pos rfl] at y ⊢
    exact y _ H' F' S' e (.bl true)
theorem dv_not {f : DEnv → M D} (h1 : DV w E ta f) : DV w E (tNotV ta) (fun ρ => bnd (mTest f ρ) fun b ρ => ret (.bl (!b)) ρ) := fun z F0 B ρ σ H F Q S k => by
  rw [wpM_bnd] at k
  exact test_core (Q := fun b H1 => Q (.bl (!b)) H1) h1 S (k.mono fun b ρ' y H' F' S' e => y _ H' F' S' e (.bl _))
def mIf {α : Type} (t : DEnv → M Bool) (f g : DEnv → M α) (ρ : DEnv) : M α := bnd (t ρ) fun b ρ => if b = true then f ρ else g ρ
theorem dv_if {t : DEnv → M Bool} {f g : DEnv → M D} (h : DT w E tt t) (h1 : DV w E ta f) (h2 : DV w E tb g) : DV w E (tIf tt ta tb) (mIf t f g) := fun z F0 B ρ σ H F Q S k => by
  unfold mIf at k
  rw [wpM_bnd] at k
  refine h z F0 B ρ σ H F _ S (k.mono fun b ρ' y H' F' S' e => ?_)
  cases b
  · rw [if_neg Bool.false_ne_true] at y ⊢
    exact h2 z F0 B ρ' σ H' F' Q S' (y.mono fun b ρ2 z2 v H2 F2 S2 e2 r => z2 v H2 F2 S2 (e.trans e2) r)
  · rw [if_pos rfl] at y ⊢
    exact h1 z F0 B ρ' σ H' F' Q S' (y.mono fun b ρ2 z2 v H2 F2 S2 e2 r => z2 v H2 F2 S2 (e.trans e2) r)
/-- a op b op c -/
theorem Res.flat {F H : Hp} {Q : VK} {c : Cell} (i : Same F H) (k : ∀ v d, c = .val d → Rep w F v d → (∀ F' , Same F F' → Rep w F' v d) → Q v H) (hc : ∃ b, c = .val (.bl b)) : Res w F H Q c → Res w F H Q c := id
def mChain (g g' : D → D → Option Cell) (f1 f2 f3 : DEnv → M D) (ρ : DEnv) : M D := bnd (f1 ρ) fun a ρ => bnd (f2 ρ) fun b ρ => match g a b with
  | some (.val (.bl true)) => bnd (f3 ρ) fun c ρ => match g' b c with
    | some (.val (.bl k)) => ret (.bl k) ρ
    | _ => none
  | some (.val (.bl false)) => ret (.bl false) ρ
  | _ => none
theorem dv_chain {r r' : R2} {g g' : D → D → Option Cell} {f1 f2 f3 : DEnv → M D} (hg : D2 w r g) (hg' : D2 w r' g') (h1 : DV w E ta f1) (h2 : DV w E tb f2) (h3 : DV w E tc f3) : DV w E (tChain r r' ta tb tc) (mChain g g' f1 f2 f3) := fun z F0 B ρ σ H F Q S k => by
  unfold mChain at k
  rw [wpM_bnd] at k
  refine h1 z F0 B ρ σ H F _ S (k.mono fun d ρ1 y x H1 F1 S1 e1 r1 => ?_)
  rw [wpM_bnd] at y
  refine h2 z F0 B ρ1 σ H1 F1 _ S1 (y.mono fun e ρ2 z2 y H2 F2 S2 e2 r2 => ?_)
  refine hg F2 H2 x y d e _ S2.ext.i (Rep.mono e2 _ _ r1) r2 ?_
  cases q : g d e with
  | none => rw [q] at z2; exact z2.elim
  | some c =>
    rw [q] at z2
    show Res w F2 H2 _ c
    intro v H3 F3 e3 r3
    have S3 := S2.grow e3
    cases c with
    | un => exact z2.elim
    | own _ d => exact z2.elim
    | val d' =>
      cases d' <;> first | exact z2.elim | skip
      rename_i b
      cases (show Rep w F3 v (.bl b) from r3).bl_eq
      cases b
      · refine ⟨false, rfl, ?_⟩
        rw [if_neg Bool.false_ne_true]
        exact z2 _ H3 F3 S3 (e1.trans (e2.trans e3.f)) (.bl false)
      · refine ⟨true, rfl, ?_⟩
        rw [if_pos rfl]
        change wpM (bnd (f3 ρ2) _) _ _ at z2
        rw [wpM_bnd] at z2
        refine h3 z F0 B ρ2 σ H3 F3 _ S3 (z2.mono fun c ρ4 z4 u H4 F4 S4 e4 r4 => ?_)
        refine hg' F4 H4 y u e c _ S4.ext.i (Rep.mono (e3.f.trans e4) _ _ r2) r4 ?_
        cases q4 : g' e c with
        | none => rw [q4] at z4; exact z4.elim
        | some c4 =>
          rw [q4] at z4
          show Res w F4 H4 _ c4
          intro v H5 F5 e5 r5
          cases c4 with
          | un => exact z4.elim
          | own _ d => exact z4.elim
          | val d' =>
            cases d' <;> first | exact z4.elim | skip
            exact z4 _ H5 F5 (S4.grow e5) (e1.trans (e2.trans (e3.f.trans (e4.trans e5.f)))) r5
/-! ### displays -/
def mTup (f : DEnv → M (List D)) (ρ : DEnv) : M D := bnd (f ρ) fun ds ρ => if ds.length ≤ big then ret (.tup ds) ρ else none
def mLst (f : DEnv → M (List D)) (ρ : DEnv) : M Cell := bnd (f ρ) fun ds ρ => if ds.length ≤ big then ret (.own false (.lst ds)) ρ else none
theorem wpM_if {p : Prop} [Decidable p] {α : Type} {o : M α} {P : α → DEnv → Prop} {X : Nat → D → Prop} (h : wpM (if p then o else none) P X) : p ∧ wpM o P X := by
  by_cases q : p
  · rw [if_pos q] at h; exact ⟨q, h⟩
  · rw [if_neg q] at h; exact h.elim
theorem dv_tup {ta : TA} {f : DEnv → M (List D)} (h : DA w E ta f) : DV w E (tTup ta) (mTup f) := fun z F0 B ρ σ H F Q S k => by
  unfold mTup at k
  rw [wpM_bnd] at k
  refine h z F0 B ρ σ H F _ S (k.mono fun ds ρ1 y vs H1 F1 S1 e1 r1 => ?_)
  obtain ⟨hl, y⟩ := wpM_if y
  refine ⟨big_le (by rw [r1.len]; exact hl), fun p hp => ?_⟩
  exact Res.newTup (w := w) (ds := ds) (fun v H' F' e' r' => y v H' F' (S1.grow e') (e1.trans e'.f) r') S1.ext.i hp r1
theorem de_lst {ta : TA} {f : DEnv → M (List D)} (h : DA w E ta f) : DE w E (tLst ta) (mLst f) := fun z F0 B ρ σ H F Q S k => by
  unfold mLst at k
  rw [wpM_bnd] at k
  refine h z F0 B ρ σ H F _ S (k.mono fun ds ρ1 y vs H1 F1 S1 e1 r1 => ?_)
  obtain ⟨hl, y⟩ := wpM_if y
  refine ⟨big_le (by rw [r1.len]; exact hl), fun p hp => ?_⟩
  exact Res.newLst (w := w) (ds := ds) (Res.fin (c := .own false (.lst ds)) S1 fun v H' F' S' e' r' => y v H' F' S' (e1.trans e') r') S1.ext.i hp r1
def mDNew (t : Nat) (ρ : DEnv) : M Cell := ret (.own false (.dct t [] [])) ρ
theorem de_dnewK : DE w E tDNewK (mDNew 0) := fun z F0 B ρ σ H F Q S k => fun p hp =>
  Res.mine (w := w) (d := .dct 0 [] []) (Res.fin (c := .own false (.dct 0 [] [])) S fun v H' F' S' e' r' => k v H' F' S' e' r') S.ext.i hp ⟨[], upd_same, rfl, .nil⟩
theorem de_dnewT : DE w E tDNewT (mDNew 1) := fun z F0 B ρ σ H F Q S k => fun p hp =>
  Res.mine (w := w) (d := .dct 1 [] []) (Res.fin (c := .own false (.dct 1 [] [])) S fun v H' F' S' e' r' => k v H' F' S' e' r') S.ext.i hp ⟨[], upd_same, rfl, .nil⟩
end
/-! ### subscripts -/
section
variable {w : W} {E : XK}
def key1 : D → Option Key
  | .int i => some (.inl i)
  | .str s => some (.inr s)
  | _ => none
def keyL : List D → Option (List Key)
  | [] => some []
  | d :: ds => (key1 d).bind fun k => (keyL ds).map fun ks => k :: ks
def keyT : D → Option (List Key)
  | .tup ds => keyL ds
  | _ => none
theorem key1_of {F : Hp} {v : V} {d : D} {k : Key} (r : Rep w F v d) (h : key1 d = some k) : v = kV k ∧ d = kD k := by
  cases r <;> simp only [key1] at h <;> first | cases h | skip
  · exact ⟨rfl, rfl⟩
  · exact ⟨rfl, rfl⟩
theorem keyL_of {F : Hp} : ∀ {vs : List V} {ds : List D} {ks : List Key}, RepAll w F vs ds → keyL ds = some ks → vs = ks.map kV ∧ ds = ks.map kD
  | _, _, _, .nil, h => by simp only [keyL] at h; cases h; exact ⟨rfl, rfl⟩
  | _, _, _, .cons (d := d) (ds := ds) r rs, h => by
    simp only [keyL] at h
    cases q : key1 d with
    | none => rw [q] at h; cases h
    | some k =>
      rw [q] at h
      cases q2 : keyL ds with
      | none => rw [q2] at h; cases h
      | some ks =>
        rw [q2] at h
        cases h
        obtain ⟨h1, h2⟩ := key1_of r q
        obtain ⟨h3, h4⟩ := keyL_of rs q2
        exact ⟨by rw [h1, h3]; rfl, by rw [h2, h4]; rfl⟩
theorem key1_kD (k : Key) : key1 (kD k) = some k := by cases k <;> rfl
theorem keyL_kD (ks : List Key) : keyL (ks.map kD) = some ks := by
  induction ks with
  | nil => rfl
  | cons k r ih => simp [keyL, key1_kD, ih]
/-- what a dict holds at a key: no answer where the key is of another kind -/
def dlk {κ : Type} [DecidableEq κ] (key : D → Option κ) : List D → List D → κ → Option D
  | k :: ks, v :: vs, x => if key k = some x then some v else dlk key ks vs x
  | _, _, _ => none
def dlook (t : Nat) (ks vs : List D) (x : D) : Option (Option D) :=
  if t = 0 then (key1 x).map (dlk key1 ks vs) else if t = 1 then (keyT x).map (dlk keyT ks vs) else none
theorem dlk_val {κ : Type} [DecidableEq κ] {key : D → Option κ} {emb : κ → D} (he : ∀ k, key (emb k) = some k) {F : Hp} (x : κ) : ∀ (kvs : List (κ × V)) (vs : List D), RepAll w F (kvs.map fun kv => kv.2) vs →
    match dlk key (kvs.map fun kv => emb kv.1) vs x with
    | some d => ∃ v, valV kvs x = some v ∧ Rep w F v d
    | none => valV kvs x = none
  | [], _, .nil => rfl
  | (k, v) :: kvs, _, .cons (d := d) (ds := ds) r rs => by
    have ih := dlk_val he x kvs ds rs
    simp only [List.map_cons, dlk, he]
    by_cases q : k = x
    · subst q
      rw [if_pos rfl]
      exact ⟨v, by simp [valV], r⟩
    · rw [if_neg (fun z => q (Option.some.inj z))]
      have e : valV ((k, v) :: kvs) x = valV kvs x := by simp [valV, List.find?_cons, q]
      rw [e]
      exact ih
theorem dlook_of {F H : Hp} (i : Same F H) {a : Addr} {y : V} {t : Nat} {ks vs : List D} {x : D} {o : Option D} (r : Rep w F (.ref a) (.dct t ks vs)) (ry : Rep w F y x) (h : dlook t ks vs x = some o) :
    match o with
    | some d => ∃ v, DGet H a y (some v) ∧ Rep w F v d
    | none => DGet H a y none := by
  cases r with
  | dK h1 h2 h3 =>
    subst h2
    have h : (key1 x).map (dlk key1 _ vs) = some o := h
    cases q : key1 x with
    | none => rw [q] at h; cases h
    | some k =>
      rw [q] at h
      obtain ⟨e1, e2⟩ := key1_of ry q
      subst e1
      have z := dlk_val (w := w) key1_kD (F := F) k _ vs h3
      have g := DGet.k (k := k) (i _ _ h1)
      cases o with
      | some d =>
        rw [show dlk key1 _ vs k = some d from Option.some.inj h] at z
        obtain ⟨v, hv, rv⟩ := z
        exact ⟨v, by rw [← hv]; exact g, rv⟩
      | none =>
        rw [show dlk key1 _ vs k = none from Option.some.inj h] at z
        show DGet H a (kV k) none
        rw [← z]; exact g
  | dT h1 h2 h3 =>
    subst h2
    have h : (keyT x).map (dlk keyT _ vs) = some o := h
    cases q : keyT x with
    | none => rw [q] at h; cases h
    | some k =>
      rw [q] at h
      have h2 : dlk keyT _ vs k = o := Option.some.inj h
      clear h
      cases x <;> simp only [keyT] at q <;> first | cases q | skip
      cases ry with
      | tup hy ry =>
        obtain ⟨e1, e2⟩ := keyL_of ry q
        subst e1
        have z := dlk_val (w := w) (key := keyT) (emb := fun k => D.tup (k.map kD)) (fun k => by simp only [keyT]; exact keyL_kD k) (F := F) k _ vs h3
        have g := DGet.t (k := k) (i _ _ h1) (i _ _ hy)
        cases o with
        | some d =>
          rw [show dlk keyT _ vs k = some d from h2] at z
          obtain ⟨v, hv, rv⟩ := z
          exact ⟨v, by rw [← hv]; exact g, rv⟩
        | none =>
          rw [show dlk keyT _ vs k = none from h2] at z
          show DGet H a _ none
          rw [← z]; exact g
def rIxDc : R2 := fun x y H Q => ∃ a v, x = .ref a ∧ DGet H a y (some v) ∧ Q v H
theorem ix_dict {X : Cx} (hu : X.A.units + 1 < cLine) : IxR X rIxDc := by
  intro value slice pins s σ H x y v u Q I rx ry h hs
  obtain ⟨a, v', rfl, g, q⟩ := h
  obtain rfl : v = .ref a := rx
  exact tail_any (dict_typeIs I g) PySem.F.slot_dict_getitem.lookup (d_getItem hu I g ry fun w' s3 I3 rw' => ⟨v', H, I3, rw', q⟩) hs
def rIxD (K : PySem.W.Frag) : R2 := fun x y H Q => rIxL K x y H Q ∨ rIxT K x y H Q ∨ rIxS x y H Q ∨ rIxDc x y H Q
theorem ix_D {X : Cx} {K : PySem.W.Frag} (hK : X.K = K) (hu : X.A.units + 1 < cLine) : IxR X (rIxD K) := by
  subst hK
  exact ix_list.or (ix_tup.or (ix_str.or (ix_dict hu)))
def gIx : D → D → Option Cell
  | .lst xs, .int i => (atI xs i).map .val
  | .tup xs, .int i => (atI xs i).map .val
  | .str z, .int i => if z.length ≤ big then (atI z.cps.toList i).map fun c => .val (.str ⟨#[c]⟩) else none
  | .dct t ks vs, x => match dlook t ks vs x with
    | some (some d) => some (.val d)
    | _ => none
  | .scr ns, .int i => (atI ns i).map fun z => .val (.int z)
  | _, _ => none
theorem ixN_lt {n : Nat} {i : Int} {j : Nat} (h : ixN n i = some j) : j < n := by
  unfold ixN at h
  split at h
  · split at h
    · cases h; omega
    · cases h
  · split at h
    · cases h; omega
    · cases h
theorem atI_rep {F : Hp} {vs : List V} {ds : List D} {i : Int} {d : D} (r : RepAll w F vs ds) (h : atI ds i = some d) : ∃ v, atI vs i = some v ∧ Rep w F v d := by
  unfold atI at h ⊢
  rw [r.len]
  cases q : ixN ds.length i with
  | none => rw [q] at h; cases h
  | some j =>
    rw [q] at h
    exact r.get h
theorem rep_intsM {F : Hp} : ∀ (ns : List Int), RepAll w F (ns.map V.int) (ns.map D.int)
  | [] => .nil
  | n :: ns => .cons (.int n) (rep_intsM ns)
theorem atI_map {ns : List Int} {i c : Int} (h : atI ns i = some c) : atI (ns.map D.int) i = some (.int c) := by
  unfold atI at h ⊢
  rw [List.length_map]
  cases q : ixN ns.length i with
  | none => rw [q] at h; cases h
  | some j =>
    rw [q] at h
    show (ns.map D.int)[j]? = _
    rw [List.getElem?_map, show ns[j]? = some c from h]
    rfl
theorem d2_ix : D2 w (rIxD w.K) gIx := fun F H x y d e Q i rx ry h => by
  cases d <;> first | exact h.elim | skip
  · cases e <;> first | exact h.elim | skip
    cases rx; cases ry
    obtain ⟨hl, h⟩ := (show _ ∧ _ from by
      simp only [gIx] at h
      split at h
      · rename_i q; exact ⟨q, h⟩
      · exact h.elim)
    obtain ⟨c, hc, h⟩ := wpO_map h
    exact .inr (.inr (.inl ⟨_, _, c, rfl, rfl, big_le hl, hc, Res.val0 h i (.str _)⟩))
  · cases e <;> first | exact h.elim | skip
    obtain ⟨c, hc, h⟩ := wpO_map h
    cases ry
    cases rx with
    | tup hx rx =>
      obtain ⟨v, hv, rv⟩ := atI_rep rx hc
      exact .inr (.inl ⟨_, _, _, v, rfl, rfl, sqT (i _ _ hx), hv, Res.val0 h i rv⟩)
  · cases e <;> first | exact h.elim | skip
    obtain ⟨c, hc, h⟩ := wpO_map h
    cases ry
    cases rx with
    | lst hx rx =>
      obtain ⟨v, hv, rv⟩ := atI_rep rx hc
      exact .inl ⟨_, _, _, v, rfl, rfl, sqL (i _ _ hx), hv, Res.val0 h i rv⟩
  · rename_i t ks vs
    have hx : ∃ a, x = .ref a := by cases rx <;> exact ⟨_, rfl⟩
    obtain ⟨a, rfl⟩ := hx
    simp only [gIx] at h
    split at h
    · rename_i d hd
      obtain ⟨v, g, rv⟩ := dlook_of i rx ry hd
      exact .inr (.inr (.inr ⟨a, v, rfl, g, Res.val0 h i rv⟩))
    · exact h.elim
  · cases e <;> first | exact h.elim | skip
    obtain ⟨c, hc, h⟩ := wpO_map h
    cases ry
    cases rx with
    | scr hx =>
      obtain ⟨v, hv, rv⟩ := atI_rep (rep_intsM (w := w) (F := F) _) (atI_map hc)
      cases rv
      exact .inl ⟨_, _, _, _, rfl, rfl, same_sqL i hx, hv, Res.val0 h i (.int _)⟩
end
end Dm

namespace Dm
open PySem PySem.Spec PyProof.Rows L2
/-! ### in -/
section
variable {w : W} {E : XK}
def eqF : D → D → Bool
  | .non, .non => true
  | .bl a, .bl b => a == b
  | .bl a, .int b => (if a then 1 else 0) == b
  | .int a, .bl b => a == (if b then 1 else 0)
  | .int a, .int b => a == b
  | .str a, .str b => a == b
  | _, _ => false
def isF : D → Bool
  | .non => true
  | .bl _ => true
  | .int _ => true
  | .str _ => true
  | _ => false
theorem isF_of {F : Hp} {v : V} {d : D} (r : Rep w F v d) : flatV v = isF d := by cases r <;> rfl
theorem eqF_of {F G : Hp} {v u : V} {d e : D} (r : Rep w F v d) (q : Rep w G u e) (h : isF d = true) (k : isF e = true) : eqV v u = eqF d e := by
  cases r <;> cases q <;> first | rfl | exact absurd h Bool.false_ne_true | exact absurd k Bool.false_ne_true
theorem allF_of {F : Hp} : ∀ {vs : List V} {ds : List D}, RepAll w F vs ds → vs.all flatV = ds.all isF
  | _, _, .nil => rfl
  | _, _, .cons r rs => by rw [List.all_cons, List.all_cons, isF_of r, allF_of rs]
theorem anyF_of {F G : Hp} {u : V} {e : D} (q : Rep w G u e) (k : isF e = true) : ∀ {vs : List V} {ds : List D}, RepAll w F vs ds → ds.all isF = true → inV u vs = ds.any fun d => eqF d e
  | _, _, .nil, _ => rfl
  | _, _, .cons (vs := vs) (v := v) r rs, h => by
    rw [List.all_cons, Bool.and_eq_true] at h
    have := anyF_of q k rs h.2
    unfold inV at this ⊢
    rw [List.any_cons, List.any_cons, eqF_of r q h.1 k, this]
/-- e in xs -/
def memD (e : D) (xs : List D) (isL : Bool) : Option Bool :=
  if isF e = true ∧ xs.all isF = true then some (xs.any fun d => eqF d e) else
  if isL = true then match toPy e, toPys xs with
    | some p, some ps => if SeqAt.shaped p = true ∧ SeqAt.shaped (.list ps) = true then some (ps.any fun z => PyData.eqv z p) else none
    | _, _ => none
  else none
def inD : D → D → Option Bool
  | e, .lst xs => memD e xs true
  | e, .tup xs => memD e xs false
  | e, .dct t ks vs => (dlook t ks vs e).map (·.isSome)
  | .str a, .str b => some (!(Builtin.Str.occurrences b a 0 b.length 1).isEmpty)
  | _, _ => none
def rDIn (neg : Bool) : R2 := fun y x H Q => ∃ a o, x = .ref a ∧ DGet H a y o ∧ Q (.bl (if neg then !o.isSome else o.isSome)) H
theorem op_in_dict {X : Cx} (hu : X.A.units + 1 < cLine) : OpR X (compareOp .In) (rDIn false) := by
  intro pins s σ H x y v u Q I rx ry h
  obtain ⟨a, o, rfl, g, q⟩ := h
  obtain rfl : u = .ref a := ry
  exact d_in hu I g rx fun s3 I3 => ⟨.bl o.isSome, H, I3, rfl, q⟩
theorem op_notIn_dict {X : Cx} (hu : X.A.units + 1 < cLine) : OpR X (compareOp .NotIn) (rDIn true) := by
  intro pins s σ H x y v u Q I rx ry h
  obtain ⟨a, o, rfl, g, q⟩ := h
  obtain rfl : u = .ref a := ry
  exact d_notIn hu I g rx fun s3 I3 => ⟨.bl (!o.isSome), H, I3, rfl, q⟩
def rStrIn (neg : Bool) : R2 := fun x y H Q => ∃ i j, x = .str i ∧ y = .str j ∧ Q (.bl (if neg then !(!(Builtin.Str.occurrences j i 0 j.length 1).isEmpty) else !(Builtin.Str.occurrences j i 0 j.length 1).isEmpty)) H
def rInK (K : PySem.W.Frag) : R2 := fun x y H Q => rIn K false x y H Q ∨ rInD K x y H Q ∨ rDIn false x y H Q ∨ rStrIn false x y H Q
def rNotInK (K : PySem.W.Frag) : R2 := fun x y H Q => rIn K true x y H Q ∨ rNotInD K x y H Q ∨ rDIn true x y H Q ∨ rStrIn true x y H Q
theorem op_inK {X : Cx} {K : PySem.W.Frag} (hK : X.K = K) (hu : X.A.units + 65 < cLine) : OpR X (compareOp .In) (rInK K) := by
  subst hK
  exact op_in_seq.or ((op_inD hu).or ((op_in_dict (by omega)).or op_in_str))
theorem op_notInK {X : Cx} {K : PySem.W.Frag} (hK : X.K = K) (hu : X.A.units + 65 < cLine) : OpR X (compareOp .NotIn) (rNotInK K) := by
  subst hK
  exact op_notIn_seq.or ((op_notInD hu).or ((op_notIn_dict (by omega)).or op_notIn_str))
/-- four ways of in -/
def InWay (w : W) (H : Hp) (x y : V) (b : Bool) : Prop :=
    (∃ p xs, y = .ref p ∧ (SqL w.K H p xs ∨ SqT w.K H p xs) ∧ flatV x = true ∧ xs.all flatV = true ∧ inV x xs = b) ∨
    (∃ p ps, Dp w.K H x p ∧ Dp w.K H y (.list ps) ∧ SeqAt.shaped p = true ∧ SeqAt.shaped (.list ps) = true ∧ (ps.any fun z => PyData.eqv z p) = b) ∨
    (∃ a o, y = .ref a ∧ DGet H a x o ∧ o.isSome = b) ∨ ∃ i j, x = .str i ∧ y = .str j ∧ (!(Builtin.Str.occurrences j i 0 j.length 1).isEmpty) = b
theorem in_cases {F H : Hp} (i : Same F H) {x y : V} {e d : D} {b : Bool} (rx : Rep w F x e) (ry : Rep w F y d) (h : inD e d = some b) : InWay w H x y b := by
  have seq : ∀ {p : Addr} {vs : List V} {xs : List D} {l : Bool}, y = .ref p → (SqL w.K H p vs ∨ SqT w.K H p vs) → RepAll w F vs xs → (l = true → ∃ ds, d = .lst ds ∧ ds = xs) → memD e xs l = some b → InWay w H x y b := by
    intro p vs xs l hy hs rs hl hm
    unfold memD at hm
    split at hm
    · rename_i hf
      cases hm
      exact Or.inl ⟨p, vs, hy, hs, by rw [isF_of rx]; exact hf.1, by rw [allF_of rs]; exact hf.2, anyF_of rx hf.1 rs hf.2⟩
    · split at hm
      · rename_i hl'
        obtain ⟨ds, hd, he⟩ := hl hl'
        subst he
        split at hm
        · rename_i q qs h1 h2
          split at hm
          · rename_i hsh
            cases hm
            exact Or.inr (Or.inl ⟨q, qs, Same.dp i rx h1, Same.dp i ry (by rw [hd]; simp only [toPy, h2]; rfl), hsh.1, hsh.2, rfl⟩)
          · cases hm
        · cases hm
      · cases hm
  unfold inD at h
  split at h
  · rename_i xs
    cases ry with
    | lst h1 h2 => exact seq rfl (.inl (sqL (i _ _ h1))) h2 (fun _ => ⟨_, rfl, rfl⟩) h
  · rename_i xs
    cases ry with
    | tup h1 h2 => exact seq rfl (.inr (sqT (i _ _ h1))) h2 (fun z => by cases z) h
  · rename_i t ks vs
    have hx : ∃ a, y = .ref a := by cases ry <;> exact ⟨_, rfl⟩
    obtain ⟨a, rfl⟩ := hx
    cases q : dlook t ks vs e with
    | none => rw [q] at h; cases h
    | some o =>
      rw [q] at h
      cases h
      have z := dlook_of i ry rx q
      cases o with
      | none => exact .inr (.inr (.inl ⟨a, none, rfl, z, rfl⟩))
      | some d => obtain ⟨v, g, _⟩ := z; exact .inr (.inr (.inl ⟨a, some v, rfl, g, rfl⟩))
  · cases rx; cases ry; cases h
    exact .inr (.inr (.inr ⟨_, _, rfl, rfl, rfl⟩))
  · cases h
def gIn (e d : D) : Option Cell := (inD e d).map fun b => .val (.bl b)
def gNotIn (e d : D) : Option Cell := (inD e d).map fun b => .val (.bl (!b))
theorem d2_in : D2 w (rInK w.K) gIn := fun F H x y d e Q i rx ry h => by
  obtain ⟨b, hb, h⟩ := wpO_map h
  rcases in_cases i rx ry hb with ⟨p, xs, h1, h2, h3, h4, h5⟩ | ⟨p, q, h1, h2, h3, h4, h5⟩ | ⟨a, o, h1, h2, h3⟩ | ⟨a, c, h1, h2, h3⟩
  · exact .inl ⟨p, xs, h1, h2, h3, h4, by rw [if_neg Bool.false_ne_true, h5]; exact Res.val0 h i (.bl _)⟩
  · exact .inr (.inl ⟨p, q, h1, h2, h3, h4, by rw [h5]; exact Res.val0 h i (.bl _)⟩)
  · exact .inr (.inr (.inl ⟨a, o, h1, h2, by rw [if_neg Bool.false_ne_true, h3]; exact Res.val0 h i (.bl _)⟩))
  · exact .inr (.inr (.inr ⟨a, c, h1, h2, by rw [if_neg Bool.false_ne_true, h3]; exact Res.val0 h i (.bl _)⟩))
theorem d2_notIn : D2 w (rNotInK w.K) gNotIn := fun F H x y d e Q i rx ry h => by
  obtain ⟨b, hb, h⟩ := wpO_map h
  rcases in_cases i rx ry hb with ⟨p, xs, h1, h2, h3, h4, h5⟩ | ⟨p, q, h1, h2, h3, h4, h5⟩ | ⟨a, o, h1, h2, h3⟩ | ⟨a, c, h1, h2, h3⟩
  · exact .inl ⟨p, xs, h1, h2, h3, h4, by rw [if_pos rfl, h5]; exact Res.val0 h i (.bl _)⟩
  · exact .inr (.inl ⟨p, q, h1, h2, h3, h4, by rw [h5]; exact Res.val0 h i (.bl _)⟩)
  · exact .inr (.inr (.inl ⟨a, o, h1, h2, by rw [if_pos rfl, h3]; exact Res.val0 h i (.bl _)⟩))
  · exact .inr (.inr (.inr ⟨a, c, h1, h2, by rw [if_pos rfl, h3]; exact Res.val0 h i (.bl _)⟩))
/-- a written tuple: in it -/
def vD : V → Option D
  | .non => some .non
  | .bl b => some (.bl b)
  | .int i => some (.int i)
  | .str s => some (.str s)
  | _ => none
def vDs : List V → Option (List D)
  | [] => some []
  | v :: vs => (vD v).bind fun d => (vDs vs).map fun ds => d :: ds
theorem vD_rep {F : Hp} {v : V} {d : D} (h : vD v = some d) : Rep w F v d ∧ isF d = true := by
  cases v <;> simp only [vD] at h <;> first | cases h | skip
  · exact ⟨.non, rfl⟩
  · exact ⟨.bl _, rfl⟩
  · exact ⟨.int _, rfl⟩
  · exact ⟨.str _, rfl⟩
theorem vDs_rep {F : Hp} : ∀ {vs : List V} {ds : List D}, vDs vs = some ds → RepAll w F vs ds ∧ ds.all isF = true
  | [], _, h => by simp only [vDs] at h; cases h; exact ⟨.nil, rfl⟩
  | v :: vs, _, h => by
    simp only [vDs] at h
    cases q : vD v with
    | none => rw [q] at h; cases h
    | some d =>
      rw [q] at h
      cases q2 : vDs vs with
      | none => rw [q2] at h; cases h
      | some ds =>
        rw [q2] at h
        cases h
        obtain ⟨h1, h2⟩ := vD_rep (w := w) (F := F) q
        obtain ⟨h3, h4⟩ := vDs_rep (F := F) q2
        exact ⟨.cons h1 h3, by rw [List.all_cons, h2, h4]; rfl⟩
def mInW (ds : List D) (f : DEnv → M D) (ρ : DEnv) : M Cell := bnd (f ρ) fun e ρ => if isF e = true then ret (.val (.bl (ds.any fun d => eqF d e))) ρ else none
theorem de_inW {te : TE} {f : DEnv → M D} {a : Addr} {vs : List V} {ds : List D} (h : DV w E te f) (hk : ∀ H, SqT w.K H a vs) (hv : vDs vs = some ds) : DE w E (tOp (rInK w.K) te (tC (.ref a))) (mInW ds f) := fun z F0 B ρ σ H F Q S k => by
  unfold mInW at k
  rw [wpM_bnd] at k
  refine h z F0 B ρ σ H F _ S (k.mono fun d ρ1 y x H1 F1 S1 e1 r1 => ?_)
  obtain ⟨hf, y⟩ := wpM_if y
  obtain ⟨h3, h4⟩ := vDs_rep (w := w) (F := F1) hv
  refine .inl ⟨a, vs, rfl, .inr (hk H1), by rw [isF_of r1]; exact hf, by rw [allF_of h3]; exact h4, ?_⟩
  rw [if_neg Bool.false_ne_true, anyF_of r1 hf h3 h4]
  exact y _ H1 F1 S1 e1 (.bl _)
end
/-! ### slices -/
section
variable {w : W} {E : XK}
def cutG {α : Type} (xs : List α) (lo hi : Option Int) : List α := (xs.drop (HT.sIx xs.length 0 lo)).take (HT.sIx xs.length xs.length hi - HT.sIx xs.length 0 lo)
theorem RepAll.cut {F : Hp} {vs : List V} {ds : List D} (r : RepAll w F vs ds) (lo hi : Option Int) : RepAll w F (cutV vs lo hi) (cutG ds lo hi) := by
  unfold cutV cutG
  rw [r.len]
  exact (r.drop _).take _
def DO (w : W) (E : XK) (to : TO) (f : DEnv → M (Option Int)) : Prop := ∀ z F0 B ρ σ H F Q, Sim w z F0 B ρ σ H F →
  wpM (f ρ) (fun d ρ' => ∀ H' F', Sim w z F0 B ρ' σ H' F' → Same F F' → Q d H') (XP w F0 B E) → to σ H Q
def mNoPart (ρ : DEnv) : M (Option Int) := ret none ρ
def mPart (f : DEnv → M D) (ρ : DEnv) : M (Option Int) := bnd (f ρ) fun d ρ => match d with
  | .int i => ret (some i) ρ
  | _ => none
theorem do_none : DO w E tNoPart mNoPart := fun z F0 B ρ σ H F Q S k => k H F S (.refl _)
theorem do_some {te : TE} {f : DEnv → M D} (h : DV w E te f) : DO w E (tPart te) (mPart f) := fun z F0 B ρ σ H F Q S k => by
  unfold mPart at k
  rw [wpM_bnd] at k
  refine h z F0 B ρ σ H F _ S (k.mono fun d ρ1 y x H1 F1 S1 e1 r1 => ?_)
  cases d <;> first | exact y.elim | skip
  cases r1
  exact ⟨_, rfl, y H1 F1 S1 e1⟩
def rSlD (K : PySem.W.Frag) : V → Option Int → Option Int → Hp → VK → Prop := fun x lo hi H Q => rSlL K x lo hi H Q ∨ rSlA K x lo hi H Q ∨ C8.rSlX x lo hi H Q
theorem sl_D {X : Cx} {K : PySem.W.Frag} (hK : X.K = K) : SlR X (rSlD K) := by
  subst hK
  exact sl_list.or (sl_tupA.or C8.sl_txt)
def gSl (lo hi : Option Int) : D → Option Cell
  | .lst xs => some (.own false (.lst (cutG xs lo hi)))
  | .tup xs => some (.val (.tup (cutG xs lo hi)))
  | .str z => if z.length ≤ big then cS (Txt.slice z lo hi) else none
  | .scr ns => some (.own false (.lst (cutG (ns.map D.int) lo hi)))
  | _ => none
theorem cut_whole {α : Type} {xs : List α} {lo hi : Option Int} (h : HT.sIx xs.length 0 lo = 0 ∧ HT.sIx xs.length xs.length hi = xs.length) : cutG xs lo hi = xs := by
  unfold cutG
  rw [h.1, h.2]
  simp
theorem d1_sl {lo hi : Option Int} : D1 w (fun x H Q => rSlD w.K x lo hi H Q) (gSl lo hi) := fun F H x d Q i rx h => by
  cases d <;> first | exact h.elim | skip
  · cases rx
    obtain ⟨hl, h⟩ := wpO_if h
    exact .inr (.inr ⟨_, rfl, big_le hl, Res.val0 h i (.str _)⟩)
  · cases rx with
    | tup hx rx =>
      have l := rx.len
      have rc := rx.cut lo hi
      refine .inr (.inl ⟨_, _, rfl, sqT (i _ _ hx), fun z => ?_, fun _ p hp => Res.newTup h i hp rc⟩)
      rw [l] at z
      have h : Res w F H Q (.val (.tup (cutG _ lo hi))) := h
      rw [cut_whole z] at h
      exact Res.val0 h i (.tup hx rx)
  · cases rx with
    | lst hx rx => exact .inl ⟨_, _, rfl, sqL (i _ _ hx), fun p hp => Res.newLst h i hp (rx.cut lo hi)⟩
  · cases rx with
    | scr hx => exact .inl ⟨_, _, rfl, same_sqL i hx, fun p hp => Res.newLst h i hp ((rep_intsM _).cut lo hi)⟩
def mSl (f : DEnv → M D) (fl fh : DEnv → M (Option Int)) (ρ : DEnv) : M Cell := bnd (f ρ) fun d ρ => bnd (fl ρ) fun l ρ => bnd (fh ρ) fun h ρ => up (gSl l h d) ρ
theorem de_sl {te : TE} {tl th : TO} {f : DEnv → M D} {fl fh : DEnv → M (Option Int)} (h : DV w E te f) (hl : DO w E tl fl) (hh : DO w E th fh) : DE w E (tSl (rSlD w.K) te tl th) (mSl f fl fh) := fun z F0 B ρ σ H F Q S k => by
  unfold mSl at k
  rw [wpM_bnd] at k
  refine h z F0 B ρ σ H F _ S (k.mono fun d ρ1 y x H1 F1 S1 e1 r1 => ?_)
  rw [wpM_bnd] at y
  refine hl z F0 B ρ1 σ H1 F1 _ S1 (y.mono fun l ρ2 y2 H2 F2 S2 e2 => ?_)
  rw [wpM_bnd] at y2
  refine hh z F0 B ρ2 σ H2 F2 _ S2 (y2.mono fun u ρ3 y3 H3 F3 S3 e3 => ?_)
  rw [wpM_up] at y3
  exact d1_sl F3 H3 x d Q S3.ext.i (Rep.mono (e2.trans e3) _ _ r1) (y3.mono fun c k2 => Res.fin S3 fun v H' F' S' e' r' => k2 v H' F' S' (e1.trans (e2.trans (e3.trans e'))) r')
/-! ### attributes -/
def lookF : List Str → List D → Str → Option D
  | n :: ns, d :: ds, f => if f = n then some d else lookF ns ds f
  | _, _, _ => none
theorem lookF_of {F : Hp} {f : Str} {d : D} : ∀ {fs : List (Str × V)} {ds : List D}, RepAll w F (fs.map fun f => f.2) ds → lookF (fs.map fun f => f.1) ds f = some d → ∃ v, fs.lookup f = some v ∧ Rep w F v d
  | [], _, .nil, h => by simp [lookF] at h
  | (n, v) :: fs, _, .cons r rs, h => by
    simp only [List.map_cons, lookF] at h
    by_cases q : f = n
    · rw [if_pos q] at h
      cases h
      exact ⟨v, by simp [List.lookup, q], r⟩
    · rw [if_neg q] at h
      obtain ⟨u, h1, h2⟩ := lookF_of rs h
      have e : (f == n) = false := by simpa using q
      exact ⟨u, by simp [List.lookup, e, h1], h2⟩
def gFld (cs : List Nat) (f : Str) : D → Option Cell
  | .ins c ns ds => if c ∈ cs then (lookF ns ds f).map .val else none
  | _ => none
def mFld (cs : List Nat) (f : Str) (g : DEnv → M D) (ρ : DEnv) : M Cell := bnd (g ρ) fun d ρ => up (gFld cs f d) ρ
theorem de_fld {te : TE} {g : DEnv → M D} {cs : List Nat} {f : Str} (hc : ∀ c ∈ cs, Cls w.K (w.C c) ∧ NoAttr w.K (w.C c) f) (h : DV w E te g) : DE w E (tFld w.K te f) (mFld cs f g) := fun z F0 B ρ σ H F Q S k => by
  unfold mFld at k
  rw [wpM_bnd] at k
  refine h z F0 B ρ σ H F _ S (k.mono fun d ρ1 y x H1 F1 S1 e1 r1 => ?_)
  rw [wpM_up] at y
  cases d <;> first | exact y.elim | skip
  rename_i c ns ds
  simp only [gFld] at y
  split at y
  · rename_i hm
    obtain ⟨d, hd, y'⟩ := wpO_map y
    clear y
    cases r1 with
    | ins h1 h2 h3 =>
      subst h2
      obtain ⟨v, hv, rv⟩ := lookF_of h3 hd
      have y : ∀ (v : V) (H' F' : Hp), Sim w z F0 B ρ1 σ H' F' → Same F F' → RV w F0 B ρ1 σ F' H' v (.val d) → Q v H' := y'
      exact ⟨_, _, _, _, v, rfl, S1.ext.i _ _ h1, (hc c hm).1, (hc c hm).2, hv, y v H1 F1 S1 e1 rv⟩
  · exact y.elim
end
/-! ### calls -/
section
variable {w : W} {E : XK}
abbrev Fn := List D → Option (Except (Nat × D) Cell)
def wpC {α : Type} (o : Option (Except (Nat × D) α)) (P : α → Prop) (X : Nat → D → Prop) : Prop := match o with
  | some (.ok c) => P c
  | some (.error (c, x)) => X c x
  | none => False
/-- a def that changes nothing: what it hands back is m of its arguments -/
def spP (w : W) (m : Fn) : Sp := fun vs H Q E => ∃ F ds, Same F H ∧ RepAll w F vs ds ∧ wpC (m ds) (Res w F H Q) (XP w F H E)
def upC (o : Option (Except (Nat × D) Cell)) (ρ : DEnv) : M Cell := match o with
  | some (.ok c) => ret c ρ
  | some (.error (c, x)) => some (.exc c x)
  | none => none
theorem wpM_upC {o : Option (Except (Nat × D) Cell)} {ρ : DEnv} {P : Cell → DEnv → Prop} {X : Nat → D → Prop} : wpM (upC o ρ) P X = wpC o (fun c => P c ρ) X := by
  cases o with
  | none => rfl
  | some o => cases o <;> rfl
theorem wpC.mono {α : Type} {o : Option (Except (Nat × D) α)} {P P' : α → Prop} {X X' : Nat → D → Prop} (h : wpC o P X) (k : ∀ a, P a → P' a) (kx : ∀ c x, X c x → X' c x) : wpC o P' X' := by
  cases o with
  | none => exact h
  | some o => cases o with
    | ok c => exact k _ h
    | error e => exact kx _ _ h
theorem XP.later {F0 B F H : Hp} (e : Ext F0 B F H) {c : Nat} {x : D} (h : XP w F0 B E c x) : XP w F H E c x := fun dd v H' F' e' hn hd r => h dd v H' F' (e.trans e') (e.h.free hn) hd r
def mCall (m : Fn) (f : DEnv → M (List D)) (ρ : DEnv) : M Cell := bnd (f ρ) fun ds ρ => upC (m ds) ρ
theorem de_call {m : Fn} {ta : TA} {f : DEnv → M (List D)} (h : DA w E ta f) : DE w E (tCall (spP w m) [] E ta) (mCall m f) := fun z F0 B ρ σ H F Q S k => by
  unfold mCall at k
  rw [wpM_bnd] at k
  refine h z F0 B ρ σ H F _ S (k.mono fun ds ρ1 y vs H1 F1 S1 e1 r1 => ?_)
  rw [wpM_upC] at y
  refine ⟨F1, ds, S1.ext.i, by rw [List.append_nil]; exact r1, y.mono (fun c k2 => Res.fin S1 fun v H' F' S' e' r' => k2 v H' F' S' (e1.trans e') r') fun c x k2 => k2.later S1.ext⟩
def mMeth (c : Nat) (nm : Str) (m : Fn) (f : DEnv → M D) (g : DEnv → M (List D)) (ρ : DEnv) : M Cell := bnd (f ρ) fun d ρ => match d with
  | .ins c' ns ds => if c' = c ∧ nm ∉ ns then bnd (g ρ) fun es ρ => upC (m (.ins c' ns ds :: es)) ρ else none
  | _ => none
theorem look_none {F : Hp} {m : Str} : ∀ {fs : List (Str × V)}, m ∉ fs.map (fun f => f.1) → fs.lookup m = none
  | [], _ => rfl
  | (n, v) :: fs, h => by
    have e : (m == n) = false := by
      have : m ≠ n := fun z => h (by simp [z])
      simpa using this
    have := look_none (F := F) (m := m) (fs := fs) (fun z => h (by simp at z ⊢; exact .inr z))
    simp [List.lookup, e, this]
theorem de_meth {c : Nat} {C : Addr} (hC : w.C c = C) {nm : Str} {m : Fn} {te : TE} {ta : TA} {f : DEnv → M D} {g : DEnv → M (List D)} (h : DV w E te f) (hg : DA w E ta g) :
    DE w E (tMeth C nm (spP w m) [] E te ta) (mMeth c nm m f g) := fun z F0 B ρ σ H F Q S k => by
  subst hC
  unfold mMeth at k
  rw [wpM_bnd] at k
  refine h z F0 B ρ σ H F _ S (k.mono fun d ρ1 y x H1 F1 S1 e1 r1 => ?_)
  cases d <;> first | exact y.elim | skip
  rename_i c' ns ds
  obtain ⟨⟨hc, q⟩, y'⟩ := wpM_if (show wpM (if c' = c ∧ nm ∉ ns then bnd (g ρ1) fun es ρ => upC (m (.ins c' ns ds :: es)) ρ else none) _ _ from y)
  clear y
  subst hc
  rw [wpM_bnd] at y'
  have r0 := r1
  cases r1 with
  | @ins a dx fs _ _ _ h1 h2 h3 =>
  refine ⟨a, dx, fs, rfl, S1.ext.i _ _ h1, look_none (F := F) (by rw [h2]; exact q), ?_⟩
  refine hg z F0 B ρ1 σ H1 F1 _ S1 (y'.mono fun es ρ2 y2 vs H2 F2 S2 e2 r2 => ?_)
  rw [wpM_upC] at y2
  exact ⟨F2, _, S2.ext.i, by rw [List.append_nil]; exact .cons (Rep.mono e2 _ _ r0) r2, y2.mono (fun c k2 => Res.fin S2 fun v H' F' S' e' r' => k2 v H' F' S' (e1.trans (e2.trans e')) r') fun c x k2 => k2.later S2.ext⟩
end
end Dm

namespace Dm
open PySem PySem.Spec PyProof.Rows L2
theorem PI_or {X : Cx} {tg it : Expr} {w1 w2 : TI} (h1 : PI X tg it w1) (h2 : PI X tg it w2) : PI X tg it (fun σ H R => w1 σ H R ∨ w2 σ H R) :=
  ⟨fun pins s σ H R I h => h.elim (h1.run pins s σ H R I) (h2.run pins s σ H R I)⟩
theorem PG_or {X : Cx} {tg : Expr} {g1 g2 : TG} (h1 : PG X tg g1) (h2 : PG X tg g2) : PG X tg (fun v σ H R => g1 v σ H R ∨ g2 v σ H R) :=
  ⟨fun pins s σ H v u R I r h => h.elim (h1.run pins s σ H v u R I r) (h2.run pins s σ H v u R I r)⟩
section
variable {w : W} {E : XK}
/-! ### what is walked -/
def YD (w : W) (ds : List D) (F : Hp) : Nat → Hp → V → Hp → Prop := fun i H x H' => ∃ d, ds[i]? = some d ∧ ∀ F1, Same F F1 → Same F1 H → ∃ F2, Ext F1 H F2 H' ∧ Rep w F2 x d
def DI (w : W) (E : XK) (wi : TI) (f : DEnv → M (List D)) : Prop := ∀ z F0 B ρ σ H F R, Sim w z F0 B ρ σ H F →
  wpM (f ρ) (fun ds ρ' => ∀ J H' F', Sim w z F0 B ρ' σ H' F' → Same F F' → Walk J ds.length (Same F') (YD w ds F') → R J H') (XP w F0 B E) → wi σ H R
def signsD (s : Str) : List D := s.cps.toList.map fun c => .str ⟨#[c]⟩
def itSeq (f : DEnv → M D) (ρ : DEnv) : M (List D) := bnd (f ρ) fun d ρ => match d with
  | .lst xs => ret xs ρ
  | .tup xs => ret xs ρ
  | .str s => ret (signsD s) ρ
  | _ => none
def iSeq (K : PySem.W.Frag) (tl : TE) : TI := fun σ H R => iList K tl σ H R ∨ iTup K tl σ H R ∨ iStr tl σ H R
theorem pi_seq {X : Cx} {K : PySem.W.Frag} (hK : X.K = K) {tg l : Expr} {tl : TE} (hl : PE X l tl) : PI X tg l (iSeq K tl) := by
  subst hK
  exact PI_or (pi_list hl) (PI_or (pi_tup hl) (pi_str hl))
theorem yd_at {F : Hp} {vs : List V} {ds : List D} (r : RepAll w F vs ds) {i : Nat} {H : Hp} {x : V} {H' : Hp} (_ : Same F H) (y : YAt vs i H x H') : YD w ds F i H x H' := by
  obtain ⟨rfl, y⟩ := y
  obtain ⟨d, h1, h2⟩ := r.getV y
  exact ⟨d, h1, fun F1 f i => ⟨F1, .refl i, Rep.mono f _ _ h2⟩⟩
theorem di_seq {te : TE} {f : DEnv → M D} (h : DV w E te f) : DI w E (iSeq w.K te) (itSeq f) := fun z F0 B ρ σ H F R S k => by
  unfold itSeq at k
  rw [wpM_bnd] at k
  cases q : f ρ with
  | none => rw [q] at k; exact k.elim
  | some r =>
    cases r with
    | exc c x =>
      refine .inl (h z F0 B ρ σ H F _ S ?_)
      rw [q] at k ⊢
      exact k
    | ok d ρ1 =>
      have hh : ∀ Q : VK, (∀ v H' F', Sim w z F0 B ρ1 σ H' F' → Same F F' → Rep w F' v d → Q v H') → te σ H Q := fun Q hq => h z F0 B ρ σ H F Q S (by rw [q]; exact hq)
      rw [q] at k
      cases d <;> first | exact k.elim | skip
      · refine .inr (.inr (hh _ fun v H' F' S' e' r' => ?_))
        cases r'
        refine ⟨_, rfl, k _ H' F' S' e' ?_⟩
        rw [show (signsD _).length = _ from by unfold signsD; rw [List.length_map, Array.length_toList]]
        refine walk_str.mono (fun _ _ => trivial) (fun i H x H' hi s y => ?_)
        obtain ⟨rfl, c, hc, rfl⟩ := y
        exact ⟨.str ⟨#[c]⟩, by unfold signsD; rw [List.getElem?_map, Array.getElem?_toList, hc]; rfl, fun F1 f i => ⟨F1, .refl i, .str _⟩⟩
      · refine .inr (.inl (hh _ fun v H' F' S' e' r' => ?_))
        cases r' with
        | tup h1 h2 =>
          refine ⟨_, rfl, ⟨_, sqT (S'.ext.i _ _ h1)⟩, k _ H' F' S' e' ?_⟩
          rw [← h2.len]
          exact walk_tup.mono (fun H s => sqT (s _ _ h1)) (fun i H x H' hi s y => yd_at h2 s y)
      · refine .inl (hh _ fun v H' F' S' e' r' => ?_)
        cases r' with
        | lst h1 h2 =>
          refine ⟨_, rfl, ⟨_, sqL (S'.ext.i _ _ h1)⟩, k _ H' F' S' e' ?_⟩
          rw [← h2.len]
          exact walk_list.mono (fun H s => sqL (s _ _ h1)) (fun i H x H' hi s y => yd_at h2 s y)
/-- a written tuple -/
theorem di_W {a : Addr} {vs : List V} {ds : List D} (hk : ∀ H, SqT w.K H a vs) (hv : vDs vs = some ds) : DI w E (iTup w.K (tC (.ref a))) (fun ρ => ret ds ρ) := fun z F0 B ρ σ H F R S k => by
  obtain ⟨h3, _⟩ := vDs_rep (w := w) (F := F) hv
  refine ⟨a, rfl, ⟨vs, hk H⟩, k _ H F S (.refl _) ?_⟩
  rw [← h3.len]
  exact walk_tup.mono (fun H s => hk H) (fun i H x H' hi s y => yd_at h3 s y)
def small62 (j : Int) : Bool := decide (-(2 ^ 62) ≤ j) && decide (j < 2 ^ 62)
theorem small62_of {j : Int} (h : small62 j = true) : -(2 ^ 62) ≤ j ∧ j < 2 ^ 62 := by
  unfold small62 at h
  rw [Bool.and_eq_true] at h
  exact ⟨of_decide_eq_true h.1, of_decide_eq_true h.2⟩
def rngD (lo : Int) (n : Nat) : List D := (List.range n).map fun i => .int (lo + (i : Nat))
def itRng1 (f : DEnv → M (List D)) (ρ : DEnv) : M (List D) := bnd (f ρ) fun ds ρ => match ds with
  | [.int j] => if small62 j = true then ret (rngD 0 j.toNat) ρ else none
  | _ => none
def itRng2 (f : DEnv → M (List D)) (ρ : DEnv) : M (List D) := bnd (f ρ) fun ds ρ => match ds with
  | [.int i, .int j] => if small62 i = true ∧ small62 j = true then ret (rngD i (j - i).toNat) ρ else none
  | _ => none
theorem walk_rng {lo : Int} {n : Nat} {F : Hp} : Walk (Itr lo n) (rngD lo n).length (Same F) (YD w (rngD lo n) F) := by
  have e : (rngD lo n).length = n := by simp [rngD]
  rw [e]
  refine walk_range.mono (fun H s => True.intro) fun i H x H' hi s y => ?_
  obtain ⟨rfl, rfl⟩ := y
  exact ⟨.int (lo + i), by simp [rngD, hi], fun F1 f j => ⟨F1, .refl j, .int _⟩⟩
theorem di_rng1 {ta : TA} {f : DEnv → M (List D)} (h : DA w E ta f) : DI w E (iRng1 ta) (itRng1 f) := fun z F0 B ρ σ H F R S k => by
  unfold itRng1 at k
  rw [wpM_bnd] at k
  refine h z F0 B ρ σ H F _ S (k.mono fun ds ρ1 y vs H1 F1 S1 e1 r1 => ?_)
  split at y
  · obtain ⟨hs, y⟩ := wpM_if y
    cases r1 with
    | cons r1 r2 =>
      cases r1; cases r2
      obtain ⟨h1, h2⟩ := small62_of hs
      exact ⟨_, rfl, h1, h2, y _ H1 F1 S1 e1 walk_rng⟩
  · exact y.elim
theorem di_rng2 {ta : TA} {f : DEnv → M (List D)} (h : DA w E ta f) : DI w E (iRng2 ta) (itRng2 f) := fun z F0 B ρ σ H F R S k => by
  unfold itRng2 at k
  rw [wpM_bnd] at k
  refine h z F0 B ρ σ H F _ S (k.mono fun ds ρ1 y vs H1 F1 S1 e1 r1 => ?_)
  split at y
  · obtain ⟨hs, y⟩ := wpM_if y
    cases r1 with
    | cons r1 r2 =>
      cases r1
      cases r2 with
      | cons r2 r3 =>
        cases r2; cases r3
        obtain ⟨h1, h2⟩ := small62_of hs.1
        obtain ⟨h3, h4⟩ := small62_of hs.2
        exact ⟨_, _, rfl, ⟨h1, h2, h3, h4⟩, y _ H1 F1 S1 e1 walk_rng⟩
  · exact y.elim
def enumD (ds : List D) : List D := ds.zipIdx.map fun p => .tup [.int (p.2 : Nat), p.1]
theorem enumD_at {ds : List D} {i : Nat} : (enumD ds)[i]? = ds[i]?.map fun d => .tup [.int (i : Nat), d] := by
  unfold enumD
  rw [List.getElem?_map, List.getElem?_zipIdx]
  cases ds[i]? <;> simp
theorem pair_new {F1 H : Hp} {T : Addr} {x y : V} {d e : D} (i : Same F1 H) (hT : H T = none) (rx : Rep w F1 x d) (ry : Rep w F1 y e) : ∃ F2, Ext F1 H F2 (upd H T (.tup [x, y])) ∧ Rep w F2 (.ref T) (.tup [d, e]) :=
  ⟨_, Ext.new i hT, .tup upd_same (repAll_new (i.free hT) (.cons rx (.cons ry .nil)))⟩
def itEnum (f : DEnv → M (List D)) (ρ : DEnv) : M (List D) := bnd (f ρ) fun ds ρ => match ds with
  | [.lst xs] => ret (enumD xs) ρ
  | [.tup xs] => ret (enumD xs) ρ
  | _ => none
def iEnumA (K : PySem.W.Frag) (ta : TA) : TI := fun σ H R => iEnum K ta σ H R ∨ Kx.iEnT K ta σ H R
theorem enumD_len {ds : List D} : (enumD ds).length = ds.length := by simp [enumD]
/-- the outcome of f, if it is one -/
theorem wpM_split {α : Type} {o : M α} {P : α → DEnv → Prop} {X : Nat → D → Prop} (h : wpM o P X) : (∃ a ρ, o = some (.ok a ρ) ∧ P a ρ) ∨ ∃ c x, o = some (.exc c x) ∧ X c x := by
  cases o with
  | none => exact h.elim
  | some r => cases r with
    | ok a ρ => exact .inl ⟨a, ρ, rfl, h⟩
    | exc c x => exact .inr ⟨c, x, rfl, h⟩
theorem di_enum {ta : TA} {f : DEnv → M (List D)} (h : DA w E ta f) : DI w E (iEnumA w.K ta) (itEnum f) := fun z F0 B ρ σ H F R S k => by
  unfold itEnum at k
  rw [wpM_bnd] at k
  rcases wpM_split k with ⟨ds, ρ1, q, k⟩ | ⟨c, x, q, k⟩
  · have hh : ∀ Q : List V → Hp → Prop, (∀ v H' F', Sim w z F0 B ρ1 σ H' F' → Same F F' → RepAll w F' v ds → Q v H') → ta σ H Q := fun Q hq => h z F0 B ρ σ H F Q S (by rw [q]; exact hq)
    split at k
    · refine .inl (hh _ fun vs H' F' S' e' r' => ?_)
      cases r' with
      | cons r1 r2 =>
        cases r2
        cases r1 with
        | lst h1 h2 =>
          refine ⟨_, _, rfl, sqL (S'.ext.i _ _ h1), k _ H' F' S' e' ?_⟩
          rw [enumD_len, ← h2.len]
          refine walk_enum.mono (fun H s => sqL (s _ _ h1)) (fun i H x H' hi s y => ?_)
          obtain ⟨T, a, b, rfl, hT, rfl, ea, eb⟩ := y
          cases ea
          obtain ⟨d, g1, g2⟩ := h2.getV eb
          exact ⟨_, by rw [enumD_at, g1]; rfl, fun F1 f1 i1 => pair_new i1 hT (.int _) (Rep.mono f1 _ _ g2)⟩
    · refine .inr (hh _ fun vs H' F' S' e' r' => ?_)
      cases r' with
      | cons r1 r2 =>
        cases r2
        cases r1 with
        | tup h1 h2 =>
          refine ⟨_, _, rfl, sqT (S'.ext.i _ _ h1), k _ H' F' S' e' ?_⟩
          rw [enumD_len, ← h2.len]
          refine Kx.walk_enT.mono (fun H s => sqT (s _ _ h1)) (fun i H x H' hi s y => ?_)
          obtain ⟨T, b, rfl, hT, rfl, eb⟩ := y
          obtain ⟨d, g1, g2⟩ := h2.getV eb
          exact ⟨_, by rw [enumD_at, g1]; rfl, fun F1 f1 i1 => pair_new i1 hT (.int _) (Rep.mono f1 _ _ g2)⟩
    · exact k.elim
  · exact .inl (h z F0 B ρ σ H F _ S (by rw [q]; exact k))
/-! ### targets -/
def Only (sl : List Nat) (σ σ' : L2.St) : Prop := σ'.length = σ.length ∧ ∀ i, i ∉ sl → σ'[i]? = σ[i]?
theorem Only.trans {a b : List Nat} {σ σ1 σ2 : L2.St} (h : Only a σ σ1) (k : Only b σ1 σ2) : Only (a ++ b) σ σ2 :=
  ⟨k.1.trans h.1, fun i hi => (k.2 i (fun z => hi (List.mem_append_right _ z))).trans (h.2 i (fun z => hi (List.mem_append_left _ z)))⟩
def DG (w : W) (g : TG) (sl : List Nat) (tf : D → DEnv → Option DEnv) : Prop := ∀ z F0 B ρ σ H F v d Q, Sim w z F0 B ρ σ H F → Rep w F v d → wpO (tf d ρ) (fun ρ' => ∀ σ', Sim w z F0 B ρ' σ' H F → Only sl σ σ' → Q σ' H) → g v σ H Q
def DGs (w : W) (g : TGs) (sl : List Nat) (tf : List D → DEnv → Option DEnv) : Prop := ∀ z F0 B ρ σ H F vs ds Q, Sim w z F0 B ρ σ H F → RepAll w F vs ds → wpO (tf ds ρ) (fun ρ' => ∀ σ', Sim w z F0 B ρ' σ' H F → Only sl σ σ' → Q σ' H) → g vs σ H Q
def setC (i : Nat) (c : Cell) (ρ : DEnv) : Option DEnv := match ρ[i]? with
  | some (.own true _) => none
  | some _ => some (ρ.set i c)
  | none => none
theorem Sim.setC {z : Addr} {F0 B : Hp} {ρ ρ' : DEnv} {σ : L2.St} {H F : Hp} {i : Nat} {v : V} {c : Cell} (S : Sim w z F0 B ρ σ H F) (r : RV w F0 B ρ σ F H v c) (hk : ∀ d, c ≠ .own true d) (h : setC i c ρ = some ρ') : Sim w z F0 B ρ' (σ.set i (some v)) H F := by
  unfold Dm.setC at h
  have hb : ρ' = ρ.set i c ∧ i < ρ.length := by
    split at h
    · cases h
    · rename_i hy
      cases h
      exact ⟨rfl, (List.getElem?_eq_some_iff.mp hy).1⟩
    · cases h
  obtain ⟨rfl, lt⟩ := hb
  have lt' : i < σ.length := by rw [S.len]; exact lt
  have at_i : ∀ {j : Nat} {y : Cell}, (ρ.set i c)[j]? = some y → (j = i ∧ y = c) ∨ (j ≠ i ∧ ρ[j]? = some y) := by
    intro j y hy
    by_cases q : i = j
    · subst q
      rw [List.getElem?_set_self lt] at hy
      cases hy
      exact .inl ⟨rfl, rfl⟩
    · rw [List.getElem?_set_ne q] at hy
      exact .inr ⟨Ne.symm q, hy⟩
  have sg : ∀ {j : Nat}, j ≠ i → (σ.set i (some v))[j]? = σ[j]? := fun q => List.getElem?_set_ne (Ne.symm q)
  have sv : (σ.set i (some v))[i]? = some (some v) := List.getElem?_set_self lt'
  refine ⟨S.ext, by rw [List.length_set, List.length_set]; exact S.len, fun j d hj => ?_, fun j k d hj => ?_, fun j l k m d e p hj hl h1 h2 => ?_⟩
  · rcases at_i hj with ⟨rfl, q⟩ | ⟨q, hj⟩
    · subst q
      exact ⟨v, sv, r⟩
    · rw [sg q]
      exact S.val j d hj
  · rcases at_i hj with ⟨rfl, q⟩ | ⟨q, hj⟩
    · subst q
      obtain ⟨p, rfl, g1, g2, g3, g4⟩ := r
      refine ⟨p, sv, g1, g2, g3, fun hk' => ?_⟩
      subst hk'
      exact absurd rfl (hk d)
    · rw [sg q]
      exact S.own j k d hj
  · rcases at_i hj with ⟨rfl, q⟩ | ⟨q, hj'⟩
    · rcases at_i hl with ⟨rfl, _⟩ | ⟨q2, hl'⟩
      · rfl
      · subst q
        obtain ⟨p', e', g1, g2, g3, g4⟩ := r
        rw [sv] at h1
        cases h1
        cases e'
        rw [sg q2] at h2
        exact absurd h2 (g4 l m e hl')
    · rcases at_i hl with ⟨rfl, q2⟩ | ⟨q2, hl'⟩
      · subst q2
        obtain ⟨p', e', g1, g2, g3, g4⟩ := r
        rw [sv] at h2
        cases h2
        cases e'
        rw [sg q] at h1
        exact absurd h1 (g4 j k d hj')
      · rw [sg q] at h1
        rw [sg q2] at h2
        exact S.dis j l k m d e p hj' hl' h1 h2
theorem dg_name {i : Nat} : DG w (gName i) [i] (fun d ρ => setC i (.val d) ρ) := fun z F0 B ρ σ H F v d Q S r k => by
  simp only at k
  cases q : setC i (.val d) ρ with
  | none => rw [q] at k; exact k.elim
  | some ρ' =>
    rw [q] at k
    refine k _ (S.setC (c := .val d) r (fun _ => nofun) q) ⟨by rw [List.length_set], fun j hj => List.getElem?_set_ne (fun z => hj (by simp [z]))⟩
theorem dgs_nil : DGs w gNil [] (fun ds ρ => match ds with | [] => some ρ | _ => none) := fun z F0 B ρ σ H F vs ds Q S r k => by
  cases r with
  | nil => exact ⟨rfl, k σ S ⟨rfl, fun _ _ => rfl⟩⟩
  | cons _ _ => exact k.elim
theorem dgs_cons {g : TG} {gs : TGs} {a b : List Nat} {tf : D → DEnv → Option DEnv} {ts : List D → DEnv → Option DEnv} (h : DG w g a tf) (hs : DGs w gs b ts) :
    DGs w (gCons g gs) (a ++ b) (fun ds ρ => match ds with | d :: ds => (tf d ρ).bind fun ρ => ts ds ρ | [] => none) := fun z F0 B ρ σ H F vs ds Q S r k => by
  cases r with
  | nil => exact k.elim
  | cons r rs =>
    rename_i d ds
    refine ⟨_, _, rfl, h z F0 B ρ σ H F _ _ _ S r ?_⟩
    cases q : tf d ρ with
    | none => simp only [q] at k; exact k.elim
    | some ρ1 =>
      simp only [q] at k
      exact fun σ1 S1 o1 => hs z F0 B ρ1 σ1 H F _ _ _ S1 rs (wpO.mono k fun ρ2 k2 σ2 S2 o2 => k2 σ2 S2 (o1.trans o2))
def gUn (K : PySem.W.Frag) (n : Nat) (t : TGs) : TG := fun v σ H Q => gTup K n t v σ H Q ∨ gLst K n t v σ H Q
theorem pg_un {X : Cx} {K : PySem.W.Frag} (hK : X.K = K) (n : Nat) {es : List Expr} {k : Nat} {t : TGs} {pos : Pos} (hc : X.calm = true) (h : PGs X es t) (hn : (assignEach es X.env).length = n := by rfl) (hst : (assignEach es X.env).findIdx? (·.1) = none := by rfl) : PG X (.Tuple es k pos) (gUn K n t) := by
  subst hK
  exact PG_or (pg_tup hc h hn hst) (pg_lst hc h hn hst)
def unD (n : Nat) (ts : List D → DEnv → Option DEnv) : D → DEnv → Option DEnv
  | .tup ds, ρ => if ds.length = n then ts ds ρ else none
  | .lst ds, ρ => if ds.length = n then ts ds ρ else none
  | _, _ => none
theorem wpO_ifo {p : Prop} [Decidable p] {α : Type} {o : Option α} {P : α → Prop} (h : wpO (if p then o else none) P) : p ∧ wpO o P := by
  by_cases q : p
  · rw [if_pos q] at h; exact ⟨q, h⟩
  · rw [if_neg q] at h; exact h.elim
theorem dg_un {n : Nat} {gs : TGs} {a : List Nat} {ts : List D → DEnv → Option DEnv} (h : DGs w gs a ts) : DG w (gUn w.K n gs) a (unD n ts) := fun z F0 B ρ σ H F v d Q S r k => by
  cases d <;> first | exact k.elim | skip
  · obtain ⟨hl, k⟩ := wpO_ifo k
    cases r with
    | tup h1 h2 => exact .inl ⟨_, _, rfl, sqT (S.ext.i _ _ h1), by rw [h2.len]; exact hl, h z F0 B ρ σ H F _ _ _ S h2 k⟩
  · obtain ⟨hl, k⟩ := wpO_ifo k
    cases r with
    | lst h1 h2 => exact .inr ⟨_, _, rfl, sqL (S.ext.i _ _ h1), by rw [h2.len]; exact hl, h z F0 B ρ σ H F _ _ _ S h2 k⟩
end
end Dm

namespace Dm
open PySem PySem.Spec PyProof.Rows L2
section
variable {w : W} {E : XK} {z : Addr} {F0 B H F : Hp} {ρ : DEnv} {σ : L2.St} {D0 : Addr} {o o' : HO}
/-! ### an object beside the slots -/
def NoOwn (ρ : DEnv) (σ : L2.St) (p : Addr) : Prop := ∀ (i : Nat) (k : Bool) (e : D), ρ[i]? = some (.own k e) → σ[i]? ≠ some (some (.ref p))
theorem Sim.guard (S : Sim w z F0 B ρ σ H F) (h : H D0 = some o) (f : F D0 = none) (n : NoOwn ρ σ D0) : Sim w z F0 (upd B D0 o) ρ σ H F where
  ext := ⟨S.ext.f, fun a u e => by
    by_cases q : a = D0
    · subst q; rw [upd_same] at e; cases e; exact h
    · rw [upd_ne q] at e; exact S.ext.h _ _ e, S.ext.i, fun a u e => by
    by_cases q : a = D0
    · subst q; rw [f] at e; cases e
    · rw [upd_ne q]; exact S.ext.d _ _ e⟩
  len := S.len
  val := S.val
  own := fun i k d hi => by
    obtain ⟨p, h1, h2, h3, h4, h5⟩ := S.own i k d hi
    exact ⟨p, h1, h2, by rw [upd_ne (fun q => by subst q; exact n i k d hi h1)]; exact h3, h4, h5⟩
  dis := S.dis
theorem ext_un (b : B D0 = none) (e : Ext F0 (upd B D0 o) F H) : Ext F0 B F H := ⟨e.f, fun a u q => e.h a u (by
    rw [upd_ne (fun z => by subst z; rw [b] at q; cases q)]; exact q), e.i, fun a u q => by
    rcases e.d a u q with r | r
    · exact .inl r
    · by_cases y : a = D0
      · subst y; exact .inr b
      · rw [upd_ne y] at r; exact .inr r⟩
theorem Sim.unguard (b : B D0 = none) (f0 : F0 D0 = none) (S : Sim w z F0 (upd B D0 o) ρ σ H F) : Sim w z F0 B ρ σ H F ∧ NoOwn ρ σ D0 ∧ H D0 = some o ∧ F D0 = none := by
  refine ⟨⟨ext_un b S.ext, S.len, S.val, fun i k d hi => ?_, S.dis⟩, fun i k d hi q => ?_, S.ext.h _ _ upd_same, ?_⟩
  · obtain ⟨p, h1, h2, h3, h4, h5⟩ := S.own i k d hi
    refine ⟨p, h1, h2, ?_, h4, h5⟩
    by_cases y : p = D0
    · subst y; exact b
    · rw [upd_ne y] at h3; exact h3
  · obtain ⟨p, h1, h2, h3, h4, h5⟩ := S.own i k d hi
    rw [h1] at q
    cases q
    rw [upd_same] at h3
    cases h3
  · cases q : F D0 with
    | none => rfl
    | some u =>
      rcases S.ext.d _ _ q with r | r
      · rw [f0] at r; cases r
      · rw [upd_same] at r; cases r
theorem Sim.updO (S : Sim w z F0 B ρ σ H F) (b : B D0 = none) (f : F D0 = none) (n : NoOwn ρ σ D0) : Sim w z F0 B ρ σ (upd H D0 o) F where
  ext := ⟨S.ext.f, fun a u e => by
    rw [upd_ne (fun q => by subst q; rw [b] at e; cases e)]; exact S.ext.h _ _ e, fun a u e => by
    rw [upd_ne (fun q => by subst q; rw [f] at e; cases e)]; exact S.ext.i _ _ e, S.ext.d⟩
  len := S.len
  val := S.val
  own := fun i k d hi => by
    obtain ⟨p, h1, h2, h3, h4, h5⟩ := S.own i k d hi
    refine ⟨p, h1, h2, h3, h4.keep (.refl _) fun u e => ?_, h5⟩
    rw [upd_ne (fun q => by subst q; exact n i k d hi h1)]
    exact e
  dis := S.dis
/-! ### a block's own names -/
def wipeC (ρ : DEnv) : List Nat → DEnv
  | [] => ρ
  | v :: vs => (wipeC ρ vs).set v .un
theorem Sim.setUn (S : Sim w z F0 B ρ σ H F) (v : Nat) (x : Option V) : Sim w z F0 B (ρ.set v .un) (σ.set v x) H F := by
  have at_i : ∀ {j : Nat} {y : Cell}, (ρ.set v .un)[j]? = some y → y ≠ .un → v ≠ j ∧ ρ[j]? = some y := by
    intro j y h hy
    by_cases q : v = j
    · subst q
      by_cases lt : v < ρ.length
      · rw [List.getElem?_set_self lt] at h
        cases h
        exact absurd rfl hy
      · rw [List.getElem?_eq_none (by rw [List.length_set]; omega)] at h
        cases h
    · rw [List.getElem?_set_ne q] at h
      exact ⟨q, h⟩
  refine ⟨S.ext, by rw [List.length_set, List.length_set]; exact S.len, fun j d hj => ?_, fun j k d hj => ?_, fun j l k m d e p hj hl h1 h2 => ?_⟩
  · obtain ⟨q, hj⟩ := at_i hj (fun z => nomatch z)
    rw [List.getElem?_set_ne q]
    exact S.val j d hj
  · obtain ⟨q, hj⟩ := at_i hj (fun z => nomatch z)
    rw [List.getElem?_set_ne q]
    exact S.own j k d hj
  · obtain ⟨q, hj⟩ := at_i hj (fun z => nomatch z)
    obtain ⟨q2, hl⟩ := at_i hl (fun z => nomatch z)
    rw [List.getElem?_set_ne q] at h1
    rw [List.getElem?_set_ne q2] at h2
    exact S.dis j l k m d e p hj hl h1 h2
theorem Sim.wipe (S : Sim w z F0 B ρ σ H F) : ∀ vs, Sim w z F0 B (wipeC ρ vs) (wipe σ vs) H F
  | [] => S
  | v :: vs => (Sim.wipe S vs).setUn v none
theorem NoOwn.wipe {p : Addr} (n : NoOwn ρ σ p) (vs : List Nat) : NoOwn (wipeC ρ vs) (wipe σ vs) p := by
  induction vs with
  | nil => exact n
  | cons v vs ih =>
    intro j k e h q
    simp only [wipeC, L2.wipe] at h q
    by_cases y : v = j
    · subst y
      by_cases lt : v < (wipeC ρ vs).length
      · rw [List.getElem?_set_self lt] at h
        cases h
      · rw [List.getElem?_eq_none (by rw [List.length_set]; omega)] at h
        cases h
    · rw [List.getElem?_set_ne y] at h q
      exact ih j k e h q
theorem wipe_wipe {σ : L2.St} {vs : List Nat} : wipe (wipe σ vs) vs = wipe σ vs := by
  apply List.ext_getElem?
  intro i
  by_cases h : i ∈ vs
  · have key : ∀ (τ : L2.St) (us : List Nat), i ∈ us → (wipe τ us)[i]? = if i < τ.length then some none else none := by
      intro τ us
      induction us with
      | nil => intro h; cases h
      | cons u us ih =>
        intro h
        simp only [L2.wipe]
        by_cases y : u = i
        · subst y
          by_cases lt : u < τ.length
          · rw [List.getElem?_set_self (by rw [wipe_length]; exact lt), if_pos lt]
          · rw [List.getElem?_eq_none (by rw [List.length_set, wipe_length]; omega), if_neg lt]
        · rw [List.getElem?_set_ne y]
          exact ih ((List.mem_cons.mp h).resolve_left (Ne.symm y))
    rw [key _ _ h, key _ _ h, wipe_length]
  · rw [wipe_out h]
theorem only_wipe {σ σ' : L2.St} {sl vs : List Nat} (o : Only sl σ σ') (h : ∀ i ∈ sl, i ∈ vs) : wipe σ' vs = wipe σ vs := by
  apply List.ext_getElem?
  intro i
  by_cases hi : i ∈ vs
  · have key : ∀ (τ : L2.St) (us : List Nat), i ∈ us → (wipe τ us)[i]? = if i < τ.length then some none else none := by
      intro τ us
      induction us with
      | nil => intro h; cases h
      | cons u us ih =>
        intro h
        simp only [L2.wipe]
        by_cases y : u = i
        · subst y
          by_cases lt : u < τ.length
          · rw [List.getElem?_set_self (by rw [wipe_length]; exact lt), if_pos lt]
          · rw [List.getElem?_eq_none (by rw [List.length_set, wipe_length]; omega), if_neg lt]
        · rw [List.getElem?_set_ne y]
          exact ih ((List.mem_cons.mp h).resolve_left (Ne.symm y))
    rw [key _ _ hi, key _ _ hi, o.1]
  · rw [wipe_out hi, wipe_out hi]
    exact o.2 i (fun q => hi (h i q))
def keepV : Option Cell → Cell
  | some (.val d) => .val d
  | _ => .un
def restC (ρ0 ρ : DEnv) : List Nat → DEnv
  | [] => ρ
  | v :: vs => (restC ρ0 ρ vs).set v (keepV ρ0[v]?)
theorem restC_len {ρ0 ρ : DEnv} : ∀ vs, (restC ρ0 ρ vs).length = ρ.length
  | [] => rfl
  | v :: vs => by simp only [restC]; rw [List.length_set]; exact restC_len vs
theorem restC_at {ρ0 ρ : DEnv} {j : Nat} {c : Cell} : ∀ {vs : List Nat}, (restC ρ0 ρ vs)[j]? = some c → c = keepV ρ0[j]? ∧ j ∈ vs ∨ ρ[j]? = some c ∧ j ∉ vs
  | [], h => .inr ⟨h, by simp⟩
  | v :: vs, h => by
    simp only [restC] at h
    by_cases y : v = j
    · subst y
      by_cases lt : v < (restC ρ0 ρ vs).length
      · rw [List.getElem?_set_self lt] at h
        cases h
        exact .inl ⟨rfl, by simp⟩
      · rw [List.getElem?_eq_none (by rw [List.length_set]; omega)] at h
        cases h
    · rw [List.getElem?_set_ne y] at h
      rcases restC_at h with ⟨a, b⟩ | ⟨a, b⟩
      · exact .inl ⟨a, by simp [b]⟩
      · exact .inr ⟨a, by simp [b, Ne.symm y]⟩
theorem keepV_val {x : Option Cell} {d : D} (h : Cell.val d = keepV x) : x = some (.val d) := by
  unfold keepV at h
  split at h
  · cases h; rfl
  · cases h
theorem keepV_own {x : Option Cell} {k : Bool} {d : D} (h : Cell.own k d = keepV x) : False := by
  unfold keepV at h
  split at h <;> cases h
/-- behind a block -/
theorem Sim.rest {ρ0 ρi : DEnv} {Hs Fs : Hp} {vs : List Nat} (S0 : Sim w z F0 B ρ0 σ Hs Fs) (f : Same Fs F) (S : Sim w z F0 B ρi (L2.wipe σ vs) H F) : Sim w z F0 B (restC ρ0 ρi vs) σ H F := by
  have l : σ.length = ρi.length := by rw [← S.len, wipe_length]
  refine ⟨S.ext, by rw [restC_len]; exact l, fun j d hj => ?_, fun j k d hj => ?_, fun j l k m d e p hj hl h1 h2 => ?_⟩
  · rcases restC_at hj with ⟨a, b⟩ | ⟨a, b⟩
    · obtain ⟨v, g1, g2⟩ := S0.val j d (keepV_val a)
      exact ⟨v, g1, Rep.mono f _ _ g2⟩
    · have := S.val j d a
      rwa [wipe_out b] at this
  · rcases restC_at hj with ⟨a, b⟩ | ⟨a, b⟩
    · exact (keepV_own a).elim
    · have := S.own j k d a
      rwa [wipe_out b] at this
  · rcases restC_at hj with ⟨a, b⟩ | ⟨a, b⟩
    · exact (keepV_own a).elim
    · rcases restC_at hl with ⟨a2, b2⟩ | ⟨a2, b2⟩
      · exact (keepV_own a2).elim
      · rw [← wipe_out (vs := vs) b] at h1
        rw [← wipe_out (vs := vs) b2] at h2
        exact S.dis j l k m d e p a a2 h1 h2
/-! ### comprehensions -/
def lcGo (vs : List Nat) (tf : D → DEnv → Option DEnv) (tt : DEnv → M Bool) (te : DEnv → M D) : List D → DEnv → List D → Option (List D × DEnv)
  | [], ρ, acc => some (acc, ρ)
  | d :: ds, ρ, acc => match tf d (wipeC ρ vs) with
    | none => none
    | some ρ1 => match tt ρ1 with
      | some (.ok true ρ2) => match te ρ2 with
        | some (.ok e ρ3) => if acc.length < big then lcGo vs tf tt te ds (wipeC ρ3 vs) (acc ++ [e]) else none
        | _ => none
      | some (.ok false ρ2) => lcGo vs tf tt te ds (wipeC ρ2 vs) acc
      | _ => none
def mLc (it : DEnv → M (List D)) (vs : List Nat) (tf : D → DEnv → Option DEnv) (tt : DEnv → M Bool) (te : DEnv → M D) (ρ : DEnv) : M Cell :=
  bnd (it ρ) fun ds ρ0 => match lcGo vs tf tt te ds (wipeC ρ0 vs) [] with
    | some (acc, ρ) => ret (.own false (.lst acc)) (restC ρ0 ρ vs)
    | none => none
theorem Ext.none {Fa Ha Fb Hb : Hp} (e : Ext Fa Ha Fb Hb) {p : Addr} (f : Fa p = none) {o : HO} (h : Ha p = some o) : Fb p = none := by
  cases q : Fb p with
  | none => rfl
  | some u =>
    rcases e.d _ _ q with r | r
    · rw [f] at r; cases r
    · rw [h] at r; cases r
theorem XP0 {F0 B : Hp} {c : Nat} {x : D} {X : Nat → D → Prop} (h : False) : X c x := h.elim
theorem de_lc {wi : TI} {g : TG} {tt : TT} {te : TE} {sl vs : List Nat} {it : DEnv → M (List D)} {tf : D → DEnv → Option DEnv} {ft : DEnv → M Bool} {fe : DEnv → M D}
    (hi : DI w E wi it) (hg : DG w g sl tf) (ht : DT w E0 tt ft) (he : DV w E0 te fe) (hv : ∀ i ∈ sl, i ∈ vs) : DE w E (tLc wi g tt te vs) (mLc it vs tf ft fe) := fun z F0 B ρ σ H F Q S k => by
  unfold mLc at k
  rw [wpM_bnd] at k
  refine hi z F0 B ρ σ H F _ S (k.mono fun ds ρ0 y J H1 F1 S1 e1 wk => ?_)
  cases qg : lcGo vs tf ft fe ds (wipeC ρ0 vs) [] with
  | none => rw [qg] at y; exact y.elim
  | some res =>
  rw [qg] at y
  obtain ⟨acc, ρe⟩ := res
  intro D0 hD
  have fD := S1.ext.i.free hD
  have bD := S1.ext.h.free hD
  have f0D := S1.ext.f.free fD
  have nD : NoOwn (wipeC ρ0 vs) (L2.wipe σ vs) D0 := fun i kk e hi q => by
    obtain ⟨p, g1, g2, g3, g4, g5⟩ := (S1.wipe vs).own i kk e hi
    rw [g1] at q
    cases q
    obtain ⟨o, ho⟩ := g4.some
    rw [hD] at ho
    cases ho
  refine lc_it wk (fun i H' => ∃ ρi F' av as, Sim w z F0 B ρi (L2.wipe σ vs) H' F' ∧ Same F1 F' ∧ H' D0 = some (.lst av) ∧ F' D0 = none ∧ RepAll w F' av as ∧ NoOwn ρi (L2.wipe σ vs) D0 ∧ as.length = av.length ∧ lcGo vs tf ft fe (ds.drop i) ρi as = some (acc, ρe))
    ⟨_, F1, [], [], (S1.wipe vs).updO bD fD nD, .refl _, upd_same, fD, .nil, nD, rfl, qg⟩ ?_ ?_ ?_
  · rintro i H' _ ⟨ρi, F', av, as, Si, fi, _⟩
    exact fi.trans Si.ext.i
  · rintro i x Ha Hb hlt ⟨ρi, F', av, as, Si, fi, hDa, fDa, ra, ni, la, qi⟩ ⟨d, hd, hx⟩
    obtain ⟨F2, e2, rx⟩ := hx F' fi Si.ext.i
    have hDb := e2.h _ _ hDa
    have fD2 := e2.none fDa hDa
    have S2 := (Si.grow e2).wipe vs
    rw [wipe_wipe] at S2
    have n2 := ni.wipe vs
    rw [wipe_wipe] at n2
    have G2 := S2.guard hDb fD2 n2
    rw [List.drop_eq_getElem?_toList_append, hd] at qi
    simp only [Option.toList, List.singleton_append, lcGo] at qi
    refine hg z F0 _ (wipeC ρi vs) (L2.wipe σ vs) Hb F2 x d _ G2 rx ?_
    cases q1 : tf d (wipeC ρi vs) with
    | none => rw [q1] at qi; cases qi
    | some ρ1 =>
    rw [q1] at qi
    intro σ2 G3 o3
    have w3 : L2.wipe σ2 vs = L2.wipe σ vs := (only_wipe o3 hv).trans wipe_wipe
    refine ⟨w3, ht z F0 _ ρ1 σ2 Hb F2 _ G3 ?_⟩
    cases q2 : ft ρ1 with
    | none => simp only [q2] at qi; cases qi
    | some r2 =>
    cases r2 with
    | exc c x' => simp only [q2] at qi; cases qi
    | ok b ρ2 =>
    intro H3 F3 G4 f3
    cases b with
    | false =>
      simp only [q2] at qi
      rw [if_neg Bool.false_ne_true]
      obtain ⟨S5, n5, h5, f5⟩ := G4.unguard bD f0D
      have S6 := S5.wipe vs
      have n6 := n5.wipe vs
      rw [w3] at S6 n6
      exact ⟨_, F3, av, as, S6, fi.trans (e2.f.trans f3), h5, f5, RepAll.mono (e2.f.trans f3) _ _ ra, n6, la, qi⟩
    | true =>
      simp only [q2] at qi
      rw [if_pos rfl]
      refine he z F0 _ ρ2 σ2 H3 F3 _ G4 ?_
      cases q3 : fe ρ2 with
      | none => simp only [q3] at qi; cases qi
      | some r3 =>
      cases r3 with
      | exc c x' => simp only [q3] at qi; cases qi
      | ok e ρ3 =>
      simp only [q3] at qi
      intro v H4 F4 G5 f4 r4
      obtain ⟨S5, n5, h5, f5⟩ := G5.unguard bD f0D
      by_cases hb : as.length < big
      · rw [if_pos hb] at qi
        have S6 := (S5.updO (o := .lst (av ++ [v])) bD f5 n5).wipe vs
        have n6 := n5.wipe vs
        rw [w3] at S6 n6
        exact ⟨av, h5, Nat.lt_of_lt_of_le (by rw [← la]; exact hb) (big_le (Nat.le_refl _)), _, F4, av ++ [v], as ++ [e], S6, fi.trans (e2.f.trans (f3.trans f4)), upd_same, f5,
          (RepAll.mono (e2.f.trans (f3.trans f4)) _ _ ra).app (.cons r4 .nil), n6, by simp [la], qi⟩
      · rw [if_neg hb] at qi; cases qi
  · rintro H' ⟨ρi, F', av, as, Si, fi, hDa, fDa, ra, ni, la, qi⟩
    rw [List.drop_eq_nil_of_le (Nat.le_refl _)] at qi
    simp only [lcGo] at qi
    cases qi
    have S6 := S1.rest fi Si
    refine y _ H' F' S6 (e1.trans fi) ⟨D0, rfl, fDa, bD, ⟨av, hDa, ra⟩, fun j kk e hj q => ?_⟩
    rcases restC_at hj with ⟨a, b⟩ | ⟨a, b⟩
    · exact keepV_own a
    · rw [← wipe_out (vs := vs) b] at q
      exact ni j kk e a q
end
end Dm

namespace Dm
open PySem PySem.Spec PyProof.Rows L2
/-! ### statements -/
inductive O where
  | nx (ρ : DEnv)
  | rt (c : Cell) (ρ : DEnv)
  | bk (ρ : DEnv)
  | ct (ρ : DEnv)
  | exc (c : Nat) (x : D)
abbrev MS := DEnv → Option O
def wpS (o : Option O) (N : DEnv → Prop) (Rt : Cell → DEnv → Prop) (Bk Ct : DEnv → Prop) (X : Nat → D → Prop) : Prop := match o with
  | some (.nx ρ) => N ρ
  | some (.rt c ρ) => Rt c ρ
  | some (.bk ρ) => Bk ρ
  | some (.ct ρ) => Ct ρ
  | some (.exc c x) => X c x
  | none => False
section
variable {w : W} {E : XK}
def NxP (w : W) (z : Addr) (F0 B F : Hp) (q : L2.St → Hp → Prop) : DEnv → Prop := fun ρ' => ∀ σ' H' F', Sim w z F0 B ρ' σ' H' F' → Same F F' → q σ' H'
def RtP (w : W) (z : Addr) (F0 B : Hp) (q : VK) : Cell → DEnv → Prop := fun c ρ' => ∀ v σ' H' F', Sim w z F0 B ρ' σ' H' F' → RV w F0 B ρ' σ' F' H' v c → q v H'
def DS (w : W) (E : XK) (ts : TS) (m : MS) : Prop := ∀ z F0 B ρ σ H F (T : Ends), Sim w z F0 B ρ σ H F →
  wpS (m ρ) (NxP w z F0 B F T.nx) (RtP w z F0 B T.rt) (NxP w z F0 B F T.bk) (NxP w z F0 B F T.ct) (XP w F0 B E) → ts T σ H
theorem wpS.mono {o : Option O} {N N' Bk Bk' Ct Ct' : DEnv → Prop} {Rt Rt' : Cell → DEnv → Prop} {X : Nat → D → Prop} (h : wpS o N Rt Bk Ct X) (a : ∀ ρ, N ρ → N' ρ) (b : ∀ c ρ, Rt c ρ → Rt' c ρ) (c : ∀ ρ, Bk ρ → Bk' ρ) (d : ∀ ρ, Ct ρ → Ct' ρ) : wpS o N' Rt' Bk' Ct' X := by
  cases o with
  | none => exact h
  | some o => cases o with
    | nx ρ => exact a _ h
    | rt c ρ => exact b _ _ h
    | bk ρ => exact c _ h
    | ct ρ => exact d _ h
    | exc c x => exact h
theorem NxP.later {z : Addr} {F0 B F F' : Hp} {q : L2.St → Hp → Prop} {ρ : DEnv} (h : NxP w z F0 B F q ρ) (e : Same F F') : NxP w z F0 B F' q ρ := fun σ H G S f => h σ H G S (e.trans f)
theorem wpS.later {o : Option O} {z : Addr} {F0 B F F' : Hp} {q r s : L2.St → Hp → Prop} {Rt : Cell → DEnv → Prop} {X : Nat → D → Prop} (h : wpS o (NxP w z F0 B F q) Rt (NxP w z F0 B F r) (NxP w z F0 B F s) X) (e : Same F F') :
    wpS o (NxP w z F0 B F' q) Rt (NxP w z F0 B F' r) (NxP w z F0 B F' s) X := h.mono (fun _ x => x.later e) (fun _ _ x => x) (fun _ x => x.later e) (fun _ x => x.later e)
/-- an expression, then a statement's outcome -/
def bindS {α : Type} (o : M α) (k : α → DEnv → Option O) : Option O := match o with
  | some (.ok a ρ) => k a ρ
  | some (.exc c x) => some (.exc c x)
  | none => none
theorem wpS_bind {α : Type} {o : M α} {k : α → DEnv → Option O} {N Bk Ct : DEnv → Prop} {Rt : Cell → DEnv → Prop} {X : Nat → D → Prop} (h : wpS (bindS o k) N Rt Bk Ct X) : wpM o (fun a ρ => wpS (k a ρ) N Rt Bk Ct X) X := by
  cases o with
  | none => exact h
  | some r => cases r <;> exact h
def sNx : MS := fun ρ => some (.nx ρ)
theorem ds_next : DS w E tNext sNx := fun z F0 B ρ σ H F T S k => k σ H F S (.refl _)
def sSeq (a b : MS) : MS := fun ρ => match a ρ with
  | some (.nx ρ) => b ρ
  | o => o
theorem ds_seq {t u : TS} {a b : MS} (h1 : DS w E t a) (h2 : DS w E u b) : DS w E (tSeq t u) (sSeq a b) := fun z F0 B ρ σ H F T S k => by
  refine h1 z F0 B ρ σ H F _ S ?_
  unfold sSeq at k
  cases q : a ρ with
  | none => rw [q] at k; exact k
  | some o =>
    rw [q] at k
    cases o with
    | nx ρ1 => exact fun σ1 H1 F1 S1 e1 => h2 z F0 B ρ1 σ1 H1 F1 T S1 (wpS.later k e1)
    | rt c ρ => exact k
    | bk ρ => exact k
    | ct ρ => exact k
    | exc c x => exact k
def clr : Cell → Cell
  | .own _ d => .own false d
  | c => c
theorem RV.clr {z : Addr} {F0 B : Hp} {ρ : DEnv} {σ : L2.St} {H F : Hp} {v : V} {c : Cell} (r : RV w F0 B ρ σ F H v c) : RV w F0 B ρ σ F H v (clr c) := by
  cases c <;> exact r
def sSet (i : Nat) (f : DEnv → M Cell) : MS := fun ρ => bindS (f ρ) fun c ρ => (setC i (clr c) ρ).map .nx
theorem ds_set {i : Nat} {te : TE} {f : DEnv → M Cell} (h : DE w E te f) : DS w E (tAsg te (gName i)) (sSet i f) := fun z F0 B ρ σ H F T S k => by
  refine h z F0 B ρ σ H F _ S ((wpS_bind k).mono fun c ρ1 y v H1 F1 S1 e1 r1 => ?_)
  cases q : setC i (clr c) ρ1 with
  | none => rw [q] at y; exact y.elim
  | some ρ2 =>
    rw [q] at y
    exact y _ H1 F1 (S1.setC (RV.clr (z := z) r1) (fun d => by cases c <;> simp [clr]) q) e1
def sUn (tf : D → DEnv → Option DEnv) (f : DEnv → M D) : MS := fun ρ => bindS (f ρ) fun d ρ => (tf d ρ).map .nx
theorem ds_un {te : TE} {g : TG} {sl : List Nat} {tf : D → DEnv → Option DEnv} {f : DEnv → M D} (h : DV w E te f) (hg : DG w g sl tf) : DS w E (tAsg te g) (sUn tf f) := fun z F0 B ρ σ H F T S k => by
  refine h z F0 B ρ σ H F _ S ((wpS_bind k).mono fun d ρ1 y v H1 F1 S1 e1 r1 => ?_)
  refine hg z F0 B ρ1 σ H1 F1 v d _ S1 r1 ?_
  cases q : tf d ρ1 with
  | none => rw [q] at y; exact y.elim
  | some ρ2 =>
    rw [q] at y
    exact fun σ2 S2 _ => y σ2 H1 F1 S2 e1
/-- a, b = e, f -/
def sPar (i j : Nat) (f : DEnv → M (List D)) : MS := fun ρ => bindS (f ρ) fun ds ρ => match ds with
  | [d, e] => ((setC i (.val d) ρ).bind fun ρ => setC j (.val e) ρ).map .nx
  | _ => none
theorem ds_par {i j : Nat} {ta : TA} {f : DEnv → M (List D)} (h : DA w E ta f) : DS w E (tPar i j ta) (sPar i j f) := fun z F0 B ρ σ H F T S k => by
  refine h z F0 B ρ σ H F _ S ((wpS_bind k).mono fun ds ρ1 y vs H1 F1 S1 e1 r1 => ?_)
  split at y
  · cases r1 with
    | cons r1 r2 =>
      cases r2 with
      | cons r2 r3 =>
        cases r3
        rename_i d e _ _
        cases q : setC i (.val d) ρ1 with
        | none => simp only [q] at y; exact y.elim
        | some ρ2 =>
          simp only [q, Option.bind] at y
          cases q2 : setC j (.val e) ρ2 with
          | none => simp only [q2] at y; exact y.elim
          | some ρ3 =>
            simp only [q2] at y
            have S2 := S1.setC (c := .val d) r1 (fun _ => nofun) q
            have S3 := S2.setC (c := .val e) r2 (fun _ => nofun) q2
            exact ⟨_, _, rfl, y _ H1 F1 S3 e1⟩
  · exact y.elim
def sPar3 (i j l : Nat) (f : DEnv → M (List D)) : MS := fun ρ => bindS (f ρ) fun ds ρ => match ds with
  | [d, e, g] => ((setC i (.val d) ρ).bind fun ρ => (setC j (.val e) ρ).bind fun ρ => setC l (.val g) ρ).map .nx
  | _ => none
theorem ds_par3 {i j l : Nat} {ta : TA} {f : DEnv → M (List D)} (h : DA w E ta f) : DS w E (tPar3 i j l ta) (sPar3 i j l f) := fun z F0 B ρ σ H F T S k => by
  refine h z F0 B ρ σ H F _ S ((wpS_bind k).mono fun ds ρ1 y vs H1 F1 S1 e1 r1 => ?_)
  split at y
  · cases r1 with
    | cons r1 r2 =>
      cases r2 with
      | cons r2 r3 =>
        cases r3 with
        | cons r3 r4 =>
          cases r4
          rename_i d e g _ _ _
          cases q : setC i (.val d) ρ1 with
          | none => simp only [q] at y; exact y.elim
          | some ρ2 =>
            simp only [q, Option.bind] at y
            cases q2 : setC j (.val e) ρ2 with
            | none => simp only [q2] at y; exact y.elim
            | some ρ3 =>
              simp only [q2] at y
              cases q3 : setC l (.val g) ρ3 with
              | none => simp only [q3] at y; exact y.elim
              | some ρ4 =>
                simp only [q3] at y
                have S2 := S1.setC (c := .val d) r1 (fun _ => nofun) q
                have S3 := S2.setC (c := .val e) r2 (fun _ => nofun) q2
                have S4 := S3.setC (c := .val g) r3 (fun _ => nofun) q3
                exact ⟨_, _, _, rfl, y _ H1 F1 S4 e1⟩
  · exact y.elim
def sIf (t : DEnv → M Bool) (a b : MS) : MS := fun ρ => bindS (t ρ) fun c ρ => if c = true then a ρ else b ρ
theorem ds_if {tt : TT} {t u : TS} {f : DEnv → M Bool} {a b : MS} (h : DT w E tt f) (h1 : DS w E t a) (h2 : DS w E u b) : DS w E (tIfS tt t u) (sIf f a b) := fun z F0 B ρ σ H F T S k => by
  refine h z F0 B ρ σ H F _ S ((wpS_bind k).mono fun c ρ1 y H1 F1 S1 e1 => ?_)
  cases c
  · rw [if_neg Bool.false_ne_true] at y ⊢
    exact h2 z F0 B ρ1 σ H1 F1 T S1 (wpS.later y e1)
  · rw [if_pos rfl] at y ⊢
    exact h1 z F0 B ρ1 σ H1 F1 T S1 (wpS.later y e1)
def sRet (f : DEnv → M Cell) : MS := fun ρ => bindS (f ρ) fun c ρ => some (.rt c ρ)
theorem ds_ret {te : TE} {f : DEnv → M Cell} (h : DE w E te f) : DS w E (tRet te) (sRet f) := fun z F0 B ρ σ H F T S k =>
  h z F0 B ρ σ H F _ S ((wpS_bind k).mono fun c ρ1 y v H1 F1 S1 e1 r1 => y v σ H1 F1 S1 r1)
def sRetN : MS := fun ρ => some (.rt (.val .non) ρ)
theorem ds_retN : DS w E tRetN sRetN := fun z F0 B ρ σ H F T S k => k _ σ H F S .non
def sDrop (f : DEnv → M Cell) : MS := fun ρ => bindS (f ρ) fun _ ρ => some (.nx ρ)
theorem ds_drop {te : TE} {f : DEnv → M Cell} (h : DE w E te f) : DS w E (tDrop te) (sDrop f) := fun z F0 B ρ σ H F T S k =>
  h z F0 B ρ σ H F _ S ((wpS_bind k).mono fun c ρ1 y v H1 F1 S1 e1 r1 => y σ H1 F1 S1 e1)
theorem ds_break : DS w E tBreak (fun ρ => some (.bk ρ)) := fun z F0 B ρ σ H F T S k => k σ H F S (.refl _)
theorem ds_cont : DS w E tCont (fun ρ => some (.ct ρ)) := fun z F0 B ρ σ H F T S k => k σ H F S (.refl _)
theorem ds_never : DS w E tNever (fun _ => none) := fun z F0 B ρ σ H F T S k => k
/-! ### for, while -/
def forGo (tf : D → DEnv → Option DEnv) (body : MS) : List D → DEnv → Option O
  | [], ρ => some (.nx ρ)
  | d :: ds, ρ => match tf d ρ with
    | none => none
    | some ρ1 => match body ρ1 with
      | some (.nx ρ2) => forGo tf body ds ρ2
      | some (.ct ρ2) => forGo tf body ds ρ2
      | some (.bk ρ2) => some (.nx ρ2)
      | o => o
def sFor (it : DEnv → M (List D)) (tf : D → DEnv → Option DEnv) (body : MS) : MS := fun ρ => bindS (it ρ) fun ds ρ => forGo tf body ds ρ
theorem ds_for {wi : TI} {g : TG} {sl : List Nat} {tb : TS} {it : DEnv → M (List D)} {tf : D → DEnv → Option DEnv} {body : MS} (hi : DI w E wi it) (hg : DG w g sl tf) (hb : DS w E tb body) : DS w E (tFor wi g tb) (sFor it tf body) := fun z F0 B ρ σ H F T S k => by
  refine hi z F0 B ρ σ H F _ S ((wpS_bind k).mono fun ds ρ1 y J H1 F1 S1 e1 wk => ?_)
  refine for_it wk (fun i σi Hi => ∃ ρi Fi, Sim w z F0 B ρi σi Hi Fi ∧ Same F1 Fi ∧ wpS (forGo tf body (ds.drop i) ρi) (NxP w z F0 B F1 T.nx) (RtP w z F0 B T.rt) (NxP w z F0 B F1 T.bk) (NxP w z F0 B F1 T.ct) (XP w F0 B E))
    ⟨ρ1, F1, S1, .refl _, wpS.later y e1⟩ ?_ ?_ ?_
  · rintro i σi Hi _ ⟨ρi, Fi, Si, fi, _⟩
    exact fi.trans Si.ext.i
  · rintro i x σi Ha Hb hlt ⟨ρi, Fi, Si, fi, qi⟩ ⟨d, hd, hx⟩
    obtain ⟨F2, e2, rx⟩ := hx Fi fi Si.ext.i
    have S2 := Si.grow e2
    rw [List.drop_eq_getElem?_toList_append, hd] at qi
    simp only [Option.toList, List.singleton_append, forGo] at qi
    refine hg z F0 B ρi σi Hb F2 x d _ S2 rx ?_
    cases q1 : tf d ρi with
    | none => rw [q1] at qi; exact qi.elim
    | some ρ2 =>
    rw [q1] at qi
    intro σ3 S3 o3
    have f3 := fi.trans e2.f
    refine hb z F0 B ρ2 σ3 Hb F2 _ S3 ?_
    cases q2 : body ρ2 with
    | none => simp only [q2] at qi; exact qi
    | some o =>
    cases o with
    | nx ρ4 =>
      simp only [q2] at qi
      exact fun σ4 H4 F4 S4 e4 => ⟨ρ4, F4, S4, f3.trans e4, qi⟩
    | ct ρ4 =>
      simp only [q2] at qi
      exact fun σ4 H4 F4 S4 e4 => ⟨ρ4, F4, S4, f3.trans e4, qi⟩
    | bk ρ4 =>
      simp only [q2] at qi
      exact fun σ4 H4 F4 S4 e4 => qi σ4 H4 F4 S4 (f3.trans e4)
    | rt c ρ4 =>
      simp only [q2] at qi
      exact qi
    | exc c x =>
      simp only [q2] at qi
      exact qi
  · rintro σi Hi ⟨ρi, Fi, Si, fi, qi⟩
    rw [List.drop_eq_nil_of_le (Nat.le_refl _)] at qi
    exact qi σi Hi Fi Si fi
def whGo (t : DEnv → M Bool) (body : MS) : Nat → DEnv → Option O
  | 0, _ => none
  | n + 1, ρ => match t ρ with
    | some (.ok true ρ1) => match body ρ1 with
      | some (.nx ρ2) => whGo t body n ρ2
      | some (.ct ρ2) => whGo t body n ρ2
      | some (.bk ρ2) => some (.nx ρ2)
      | o => o
    | some (.ok false ρ1) => some (.nx ρ1)
    | some (.exc c x) => some (.exc c x)
    | none => none
def sWhile (n : Nat) (t : DEnv → M Bool) (body : MS) : MS := fun ρ => whGo t body n ρ
theorem ds_while {n : Nat} {tt : TT} {tb : TS} {f : DEnv → M Bool} {body : MS} (h : DT w E tt f) (hb : DS w E tb body) : DS w E (tWhile tt tb) (sWhile n f body) := fun z F0 B ρ σ H F T S k => by
  refine ⟨fun m σi Hi => ∃ ρi Fi, Sim w z F0 B ρi σi Hi Fi ∧ Same F Fi ∧ wpS (whGo f body m ρi) (NxP w z F0 B F T.nx) (RtP w z F0 B T.rt) (NxP w z F0 B F T.bk) (NxP w z F0 B F T.ct) (XP w F0 B E), ⟨n, ρ, F, S, .refl _, k⟩, ?_⟩
  rintro m σi Hi ⟨ρi, Fi, Si, fi, qi⟩
  cases m with
  | zero => exact qi.elim
  | succ m =>
  refine h z F0 B ρi σi Hi Fi _ Si ?_
  simp only [whGo] at qi
  cases q1 : f ρi with
  | none => rw [q1] at qi; exact qi
  | some r =>
  rw [q1] at qi
  cases r with
  | exc c x => exact qi
  | ok b ρ1 =>
  intro H1 F1 S1 e1
  cases b with
  | false =>
    rw [if_neg Bool.false_ne_true]
    exact qi σi H1 F1 S1 (fi.trans e1)
  | true =>
    rw [if_pos rfl]
    refine ⟨fun σ' H' => ∃ ρ' F', Sim w z F0 B ρ' σ' H' F' ∧ Same F F' ∧ wpS (whGo f body m ρ') (NxP w z F0 B F T.nx) (RtP w z F0 B T.rt) (NxP w z F0 B F T.bk) (NxP w z F0 B F T.ct) (XP w F0 B E), fun σ' H' x => ⟨m, Nat.lt_succ_self m, x⟩, ?_⟩
    refine hb z F0 B ρ1 σi H1 F1 _ S1 ?_
    cases q2 : body ρ1 with
    | none => simp only [q2] at qi; exact qi
    | some o =>
    cases o with
    | nx ρ4 => simp only [q2] at qi; exact fun σ4 H4 F4 S4 e4 => ⟨ρ4, F4, S4, fi.trans (e1.trans e4), qi⟩
    | ct ρ4 => simp only [q2] at qi; exact fun σ4 H4 F4 S4 e4 => ⟨ρ4, F4, S4, fi.trans (e1.trans e4), qi⟩
    | bk ρ4 => simp only [q2] at qi; exact fun σ4 H4 F4 S4 e4 => qi σ4 H4 F4 S4 (fi.trans (e1.trans e4))
    | rt c ρ4 => simp only [q2] at qi; exact qi
    | exc c x => simp only [q2] at qi; exact qi
/-! ### one's own list, changed -/
theorem Sim.updOwn {z : Addr} {F0 B : Hp} {ρ : DEnv} {σ : L2.St} {H F : Hp} {i : Nat} {k : Bool} {d d' : D} {p : Addr} {o : HO} (S : Sim w z F0 B ρ σ H F) (hi : ρ[i]? = some (.own k d)) (hp : σ[i]? = some (some (.ref p))) (ho : Own w F (upd H p o) p d') :
    Sim w z F0 B (ρ.set i (.own k d')) σ (upd H p o) F := by
  obtain ⟨p', h1, h2, h3, h4, h5⟩ := S.own i k d hi
  rw [hp] at h1
  cases h1
  have lt : i < ρ.length := (List.getElem?_eq_some_iff.mp hi).1
  have at_i : ∀ {j : Nat} {y : Cell}, (ρ.set i (.own k d'))[j]? = some y → (j = i ∧ y = .own k d') ∨ (j ≠ i ∧ ρ[j]? = some y) := by
    intro j y hy
    by_cases q : i = j
    · subst q
      rw [List.getElem?_set_self lt] at hy
      cases hy
      exact .inl ⟨rfl, rfl⟩
    · rw [List.getElem?_set_ne q] at hy
      exact .inr ⟨Ne.symm q, hy⟩
  refine ⟨⟨S.ext.f, fun a u e => ?_, fun a u e => ?_, S.ext.d⟩, by rw [List.length_set]; exact S.len, fun j d hj => ?_, fun j l e hj => ?_, fun j l a b e f q hj hl g1 g2 => ?_⟩
  · rw [upd_ne (fun q => by subst q; rw [h3] at e; cases e)]; exact S.ext.h _ _ e
  · rw [upd_ne (fun q => by subst q; rw [h2] at e; cases e)]; exact S.ext.i _ _ e
  · rcases at_i hj with ⟨_, q⟩ | ⟨_, hj⟩
    · cases q
    · exact S.val j d hj
  · rcases at_i hj with ⟨rfl, q⟩ | ⟨q, hj⟩
    · cases q
      exact ⟨p, hp, h2, h3, ho, h5⟩
    · obtain ⟨r, g1, g2, g3, g4, g5⟩ := S.own j l e hj
      refine ⟨r, g1, g2, g3, g4.keep (.refl _) fun u e' => ?_, g5⟩
      rw [upd_ne (fun y => by subst y; exact q (S.dis j i l k e d r hj hi g1 hp))]
      exact e'
  · rcases at_i hj with ⟨rfl, q1⟩ | ⟨q1, hj'⟩
    · rcases at_i hl with ⟨rfl, _⟩ | ⟨q2, hl'⟩
      · rfl
      · cases q1
        exact S.dis j l k b d f q hi hl' g1 g2
    · rcases at_i hl with ⟨rfl, q2⟩ | ⟨_, hl'⟩
      · cases q2
        exact S.dis j l a k e d q hj' hi g1 g2
      · exact S.dis j l a b e f q hj' hl' g1 g2
def isOwnL (ρ : DEnv) (i : Nat) : Bool := match ρ[i]? with
  | some (.own _ (.lst _)) => true
  | _ => false
def putApp (i : Nat) (d : D) (ρ : DEnv) : Option DEnv := match ρ[i]? with
  | some (.own k (.lst ds)) => if ds.length < big then some (ρ.set i (.own k (.lst (ds ++ [d])))) else none
  | _ => none
def sApp (i : Nat) (f : DEnv → M D) : MS := fun ρ => if isOwnL ρ i = true then bindS (f ρ) fun d ρ => (putApp i d ρ).map .nx else none
theorem wpS_if {p : Prop} [Decidable p] {o : Option O} {N Bk Ct : DEnv → Prop} {Rt : Cell → DEnv → Prop} {X : Nat → D → Prop} (h : wpS (if p then o else none) N Rt Bk Ct X) : p ∧ wpS o N Rt Bk Ct X := by
  by_cases q : p
  · rw [if_pos q] at h; exact ⟨q, h⟩
  · rw [if_neg q] at h; exact h.elim
theorem ds_app {i : Nat} {te : TE} {f : DEnv → M D} (h : DV w E te f) : DS w E (tDrop (tBM w.K "list" rAppend (tVar i) (tCons te tNil))) (sApp i f) := fun z F0 B ρ σ H F T S k => by
  obtain ⟨hl, k⟩ := wpS_if k
  unfold isOwnL at hl
  split at hl
  case h_2 => cases hl
  rename_i kk ds hi
  obtain ⟨p, h1, h2, h3, h4, h5⟩ := S.own i _ _ hi
  obtain ⟨vs, hv, _⟩ := h4
  refine ⟨_, h1, .inl ⟨rfl, _, sqL hv⟩, ?_⟩
  refine h z F0 B ρ σ H F _ S ((wpS_bind k).mono fun d ρ1 y v H1 F1 S1 e1 r1 => ?_)
  unfold putApp at y
  split at y
  case h_2 => exact y.elim
  rename_i k1 es hi1
  split at y
  case isFalse => exact y.elim
  rename_i hb
  obtain ⟨p1, g1, g2, g3, g4, g5⟩ := S1.own i _ _ hi1
  rw [h1] at g1
  cases g1
  obtain ⟨us, hu, ru⟩ := g4
  refine ⟨p, us, v, rfl, rfl, hu, Nat.lt_of_lt_of_le (by rw [ru.len]; exact hb) (big_le (Nat.le_refl _)), ?_⟩
  exact y σ _ F1 (S1.updOwn hi1 h1 ⟨_, upd_same, ru.app (.cons r1 .nil)⟩) e1
end
end Dm

namespace Dm
open PySem PySem.Spec PyProof.Rows L2
section
variable {w : W} {E : XK}
/-! ### stores -/
def dhas {κ : Type} [DecidableEq κ] (key : D → Option κ) (k : κ) (ks : List D) : Bool := ks.any fun x => decide (key x = some k)
def dputA {κ : Type} [DecidableEq κ] (key : D → Option κ) (k : κ) (v : D) : List D → List D → List D
  | x :: ks, y :: vs => (if key x = some k then v else y) :: dputA key k v ks vs
  | _, _ => []
def dputG {κ : Type} [DecidableEq κ] (key : D → Option κ) (k : κ) (ks vs : List D) (x v : D) : List D × List D :=
  if dhas key k ks = true then (ks, dputA key k v ks vs) else (ks ++ [x], vs ++ [v])
/-- the dict with v at the key x -/
def dput (t : Nat) (ks vs : List D) (x v : D) : Option (List D × List D) :=
  if t = 0 then (key1 x).map fun k => dputG key1 k ks vs x v else if t = 1 then (keyT x).map fun k => dputG keyT k ks vs x v else none
theorem dputG_of {κ : Type} [DecidableEq κ] {key : D → Option κ} {emb : κ → D} (he : ∀ k, key (emb k) = some k) {F : Hp} (k : κ) {y : V} {v : D} (rv : Rep w F y v) (kvs : List (κ × V)) (vs : List D) (r : RepAll w F (kvs.map fun kv => kv.2) vs) :
    (putK kvs k y).map (fun kv => emb kv.1) = (dputG key k (kvs.map fun kv => emb kv.1) vs (emb k) v).1 ∧ RepAll w F ((putK kvs k y).map fun kv => kv.2) (dputG key k (kvs.map fun kv => emb kv.1) vs (emb k) v).2 := by
  have h1 : ∀ kvs : List (κ × V), (kvs.any fun kv => decide (kv.1 = k)) = dhas key k (kvs.map fun kv => emb kv.1) := by
    intro kvs
    induction kvs with
    | nil => rfl
    | cons p r ih =>
      unfold dhas at ih ⊢
      rw [List.any_cons, List.map_cons, List.any_cons, ih, he]
      congr 1
      by_cases q : p.1 = k
      · rw [decide_eq_true q, decide_eq_true (by rw [q])]
      · rw [decide_eq_false q, decide_eq_false (fun z => q (Option.some.inj z))]
  have h2 : ∀ (kvs : List (κ × V)) (vs : List D), RepAll w F (kvs.map fun kv => kv.2) vs → RepAll w F ((kvs.map fun kv => if kv.1 = k then (kv.1, y) else kv).map fun kv => kv.2) (dputA key k v (kvs.map fun kv => emb kv.1) vs) := by
    intro kvs
    induction kvs with
    | nil =>
      intro vs h
      cases h
      exact .nil
    | cons p r ih =>
      intro vs h
      cases h with
      | cons a b =>
        simp only [List.map_cons, dputA, he]
        by_cases q : p.1 = k
        · rw [if_pos q, if_pos (by rw [q])]
          exact .cons rv (ih _ b)
        · rw [if_neg q, if_neg (fun z => q (Option.some.inj z))]
          exact .cons a (ih _ b)
  have h3 : ∀ kvs : List (κ × V), (kvs.map fun kv => if kv.1 = k then (kv.1, y) else kv).map (fun kv => emb kv.1) = kvs.map fun kv => emb kv.1 := by
    intro kvs
    rw [List.map_map]
    refine List.map_congr_left fun kv _ => ?_
    simp only [Function.comp]
    split <;> rfl
  unfold putK dputG
  rw [h1]
  split
  · exact ⟨h3 kvs, h2 kvs vs r⟩
  · exact ⟨by simp, by rw [List.map_append]; exact r.app (.cons rv .nil)⟩
theorem putK_len {κ : Type} [DecidableEq κ] (kvs : List (κ × V)) (k : κ) (v : V) : kvs.length < sizeLine → kvs.length < sizeLine := id
/-- x[i] = v for one's own list or dict -/
def putAt (i : Nat) (x v : D) (ρ : DEnv) : Option DEnv := match ρ[i]? with
  | some (.own k (.lst ds)) => match x with
    | .int j => (ixN ds.length j).map fun n => ρ.set i (.own k (.lst (ds.set n v)))
    | _ => none
  | some (.own k (.dct t ks vs)) => if ks.length < big then (dput t ks vs x v).map fun p => ρ.set i (.own k (.dct t p.1 p.2)) else none
  | _ => none
def rSetA : TSet := fun o i v H Q => rSetL o i v H Q ∨ rSetD o i v H Q
theorem PSet_or {X : Cx} {a b : TSet} (h1 : PSet X a) (h2 : PSet X b) : PSet X (fun o i v H Q => a o i v H Q ∨ b o i v H Q) := by
  intro pins s σ H o i v ov iv u Q I ro ri rv h
  rcases h with h | h
  · exact h1 pins s σ H o i v ov iv u Q I ro ri rv h
  · exact h2 pins s σ H o i v ov iv u Q I ro ri rv h
theorem set_A {X : Cx} (hu : X.A.units + 1 < cLine) : PSet X rSetA := PSet_or set_list (set_dict hu)
def isOwnA (ρ : DEnv) (i : Nat) : Bool := match ρ[i]? with
  | some (.own _ _) => true
  | _ => false
theorem isOwnA_of {ρ : DEnv} {i : Nat} (h : isOwnA ρ i = true) : ∃ k d, ρ[i]? = some (.own k d) := by
  unfold isOwnA at h
  split at h
  · rename_i k d hi; exact ⟨k, d, hi⟩
  · cases h
def sPut (i : Nat) (fx fv : DEnv → M D) : MS := fun ρ => bindS (fv ρ) fun v ρ => if isOwnA ρ i = true then bindS (fx ρ) fun x ρ => (putAt i x v ρ).map .nx else none
theorem ixN_of {n : Nat} {i : Int} {j : Nat} (h : ixN n i = some j) : ixN n i = some j := h
theorem putAt_of {z : Addr} {F0 B : Hp} {ρ ρ' : DEnv} {σ : L2.St} {H F : Hp} {i : Nat} {x v : D} {y u : V} {p : Addr} (S : Sim w z F0 B ρ σ H F) (hp : σ[i]? = some (some (.ref p))) (rx : Rep w F y x) (rv : Rep w F u v) (h : putAt i x v ρ = some ρ') {Q : Hp → Prop}
    (k : ∀ o, Sim w z F0 B ρ' σ (upd H p o) F → Q (upd H p o)) : rSetA (.ref p) y u H Q := by
  unfold putAt at h
  split at h
  · rename_i kk ds hi
    obtain ⟨p', h1, h2, h3, h4, h5⟩ := S.own i _ _ hi
    rw [hp] at h1
    cases h1
    obtain ⟨vs, hv, rs⟩ := h4
    split at h
    · cases rx
      rename_i j
      cases q : ixN ds.length j with
      | none => rw [q] at h; cases h
      | some n =>
        rw [q] at h
        cases h
        exact .inl ⟨p, vs, j, n, rfl, rfl, hv, by rw [rs.len]; exact q, k _ (S.updOwn hi hp ⟨_, upd_same, rs.set n rv⟩)⟩
    · cases h
  · rename_i kk t ks vs hi
    obtain ⟨p', h1, h2, h3, h4, h5⟩ := S.own i _ _ hi
    rw [hp] at h1
    cases h1
    split at h
    case isFalse => cases h
    rename_i hb
    unfold Own at h4
    split at h4
    · rename_i hd; cases hd
    · rename_i ks' vs' hd
      cases hd
      obtain ⟨kvs, hk, e1, rs⟩ := h4
      subst e1
      cases q : key1 x with
      | none => simp [dput, q] at h
      | some kx =>
        obtain ⟨e1, e2⟩ := key1_of rx q
        subst e1 e2
        simp only [dput, if_pos rfl, q, Option.map_some] at h
        cases h
        obtain ⟨g1, g2⟩ := dputG_of (w := w) key1_kD kx rv kvs vs rs
        refine .inr ⟨p, _, rfl, DPut.k (k := kx) hk ?_, k _ (S.updOwn hi hp ⟨_, upd_same, g1, g2⟩)⟩
        exact Nat.lt_of_lt_of_le (by simpa using hb) (big_le (Nat.le_refl _))
    · rename_i ks' vs' hd
      cases hd
      obtain ⟨kvs, hk, e1, rs⟩ := h4
      subst e1
      cases q : keyT x with
      | none => simp [dput, q] at h
      | some kx =>
        cases x <;> simp only [keyT] at q <;> first | cases q | skip
        cases rx with
        | tup hy ry =>
          obtain ⟨e1, e2⟩ := keyL_of ry q
          subst e1 e2
          have q' : keyT (D.tup (kx.map kD)) = some kx := by simp only [keyT]; exact keyL_kD kx
          simp only [dput, if_neg (by decide : ¬ (1 : Nat) = 0), if_pos rfl, q', Option.map_some] at h
          cases h
          obtain ⟨g1, g2⟩ := dputG_of (w := w) (key := keyT) (emb := fun k => D.tup (k.map kD)) (fun k => by simp only [keyT]; exact keyL_kD k) kx rv kvs vs rs
          refine .inr ⟨p, _, rfl, DPut.t (k := kx) hk (S.ext.i _ _ hy) ?_, k _ (S.updOwn hi hp ⟨_, upd_same, g1, g2⟩)⟩
          exact Nat.lt_of_lt_of_le (by simpa using hb) (big_le (Nat.le_refl _))
    · rename_i hd; cases hd
    · exact h4.elim
  · cases h
theorem ds_put {i : Nat} {tx tv : TE} {fx fv : DEnv → M D} (hx : DV w E tx fx) (hv : DV w E tv fv) : DS w E (tAsg tv (gSub (tVar i) tx rSetA)) (sPut i fx fv) := fun z F0 B ρ σ H F T S k => by
  refine hv z F0 B ρ σ H F _ S ((wpS_bind k).mono fun v ρ1 y u H1 F1 S1 e1 r1 => ?_)
  obtain ⟨ho, y⟩ := wpS_if y
  obtain ⟨kk, d, hi⟩ := isOwnA_of ho
  obtain ⟨p, h1, _⟩ := S1.own i _ _ hi
  refine ⟨_, h1, ?_⟩
  refine hx z F0 B ρ1 σ H1 F1 _ S1 ((wpS_bind y).mono fun x ρ2 y2 v2 H2 F2 S2 e2 r2 => ?_)
  cases q : putAt i x v ρ2 with
  | none => rw [q] at y2; exact y2.elim
  | some ρ3 =>
    rw [q] at y2
    exact putAt_of S2 h1 r2 (Rep.mono e2 _ _ r1) q fun o S3 => y2 σ _ F2 S3 (e1.trans e2)
/-! ### an instance's own attributes, while it is made -/
def putFD (f : Str) (v : D) : List Str → List D → List Str × List D
  | n :: ns, d :: ds => if n = f then (n :: ns, v :: ds) else let r := putFD f v ns ds; (n :: r.1, d :: r.2)
  | _, _ => ([f], [v])
end
end Dm

namespace Dm
open PySem PySem.Spec PyProof.Rows L2
section
variable {w : W} {E : XK}
/-! ### self.f = e, self one's own -/
theorem putFD_of {F : Hp} {f : Str} {y : V} {d : D} (ry : Rep w F y d) : ∀ {fs : List (Str × V)} {ds : List D}, RepAll w F (fs.map fun f => f.2) ds →
    (putF f y fs).map (fun f => f.1) = (putFD f d (fs.map fun f => f.1) ds).1 ∧ RepAll w F ((putF f y fs).map fun f => f.2) (putFD f d (fs.map fun f => f.1) ds).2
  | [], _, .nil => ⟨rfl, .cons ry .nil⟩
  | (n, u) :: fs, _, .cons r rs => by
    have ih := putFD_of (f := f) ry rs
    simp only [List.map_cons, putF, putFD]
    by_cases q : n = f
    · rw [if_pos q, if_pos q]
      exact ⟨rfl, .cons ry rs⟩
    · rw [if_neg q, if_neg q]
      exact ⟨by rw [List.map_cons, ih.1], .cons r ih.2⟩
def putFld (cs : List Nat) (i : Nat) (f : Str) (d : D) (ρ : DEnv) : Option DEnv := match ρ[i]? with
  | some (.own k (.ins c ns ds)) => if c ∈ cs ∧ ns.length < 100 then some (ρ.set i (.own k (.ins c (putFD f d ns ds).1 (putFD f d ns ds).2))) else none
  | _ => none
def sFldPut (cs : List Nat) (i : Nat) (f : Str) (fv : DEnv → M D) : MS := fun ρ => bindS (fv ρ) fun v ρ => (putFld cs i f v ρ).map .nx
theorem ds_fldput {cs : List Nat} {i : Nat} {f : Str} {tv : TE} {fv : DEnv → M D} (hc : ∀ c ∈ cs, Cls w.K (w.C c) ∧ NoAttr w.K (w.C c) f) (hv : DV w E tv fv) : DS w E (sFld w.K (tVar i) tv f) (sFldPut cs i f fv) := fun z F0 B ρ σ H F T S k => by
  refine hv z F0 B ρ σ H F _ S ((wpS_bind k).mono fun v ρ1 y u H1 F1 S1 e1 r1 => ?_)
  unfold putFld at y
  split at y
  case h_2 => exact y.elim
  rename_i kk c ns ds hi
  split at y
  case isFalse => exact y.elim
  rename_i hcc
  obtain ⟨p, h1, h2, h3, h4, h5⟩ := S1.own i _ _ hi
  obtain ⟨dx, fs, g1, g2, g3⟩ := h4
  subst g2
  obtain ⟨q1, q2⟩ := putFD_of (f := f) r1 g3
  refine ⟨_, h1, p, w.C c, dx, fs, rfl, g1, (hc c hcc.1).1, (hc c hcc.1).2, ?_, ?_⟩
  · have := hcc.2
    rw [List.length_map] at this
    omega
  · exact y σ _ F1 (S1.updOwn hi h1 ⟨dx, _, upd_same, q1, q2⟩) e1
/-! ### defs whose first argument is handed back changed -/
abbrev FnI := List D → Option (Except (Nat × D) (Cell × D))
def dlt (H : Hp) (p : Addr) : Hp := fun a => if a = p then none else H a
theorem dlt_same {H : Hp} {p : Addr} : dlt H p p = none := if_pos rfl
theorem dlt_ne {H : Hp} {p a : Addr} (h : a ≠ p) : dlt H p a = H a := if_neg h
def RNI (w : W) (p : Addr) (H F' H' : Hp) (v : V) : Cell → Prop
  | .un => False
  | .val d => Rep w F' v d
  | .own _ d => ∃ q, v = .ref q ∧ H q = none ∧ q ≠ p ∧ F' q = none ∧ Own w F' H' q d
def spI (w : W) (m : FnI) : Sp := fun vs H Q E => ∃ F p ws d0 ds, vs = .ref p :: ws ∧ Same F (dlt H p) ∧ Own w F H p d0 ∧ RepAll w F ws ds ∧
  wpC (m (d0 :: ds)) (fun cd => ∀ v H' F', Ext F (dlt H p) F' H' → F' p = none → Own w F' H' p cd.2 → RNI w p H F' H' v cd.1 → Q v H') (XP w F (dlt H p) E)
def upI (i : Nat) (k : Bool) (ρ : DEnv) (o : Option (Except (Nat × D) (Cell × D))) : M Cell := match o with
  | some (.ok (c, d1)) => ret (clr c) (ρ.set i (.own k d1))
  | some (.error (c, x)) => some (.exc c x)
  | none => none
def mCallI (m : FnI) (i : Nat) (f : DEnv → M (List D)) (ρ : DEnv) : M Cell :=
  if isOwnA ρ i = true then bnd (f ρ) fun ds ρ => match ρ[i]? with
    | some (.own k d0) => upI i k ρ (m (d0 :: ds))
    | _ => none
  else none
theorem same_dlt {F H : Hp} {p : Addr} (i : Same F H) (f : F p = none) : Same F (dlt H p) := fun a o e => by
  rw [dlt_ne (fun q => by subst q; rw [f] at e; cases e)]; exact i _ _ e
theorem ext_dlt {F0 B F1 H1 F' H' : Hp} {p : Addr} (e1 : Ext F0 B F1 H1) (hb : B p = none) (e : Ext F1 (dlt H1 p) F' H') (fp : F' p = none) : Ext F0 B F' H' := ⟨e1.f.trans e.f, fun a o q => e.h a o (by
    rw [dlt_ne (fun y => by subst y; rw [hb] at q; cases q)]; exact e1.h _ _ q), e.i, fun a o q => by
    rcases e.d a o q with r | r
    · exact e1.d a o r
    · by_cases y : a = p
      · subst y; rw [fp] at q; cases q
      · rw [dlt_ne y] at r
        exact .inr (e1.h.free r)⟩
theorem Sim.callI {z : Addr} {F0 B : Hp} {ρ : DEnv} {σ : L2.St} {H F F' H' : Hp} {i : Nat} {k : Bool} {d0 d1 : D} {p : Addr} (S : Sim w z F0 B ρ σ H F) (hi : ρ[i]? = some (.own k d0)) (hp : σ[i]? = some (some (.ref p)))
    (e : Ext F (dlt H p) F' H') (fp : F' p = none) (ho : Own w F' H' p d1) : Sim w z F0 B (ρ.set i (.own k d1)) σ H' F' := by
  obtain ⟨p', h1, h2, h3, h4, h5⟩ := S.own i k d0 hi
  rw [hp] at h1
  cases h1
  have lt : i < ρ.length := (List.getElem?_eq_some_iff.mp hi).1
  have at_i : ∀ {j : Nat} {y : Cell}, (ρ.set i (.own k d1))[j]? = some y → (j = i ∧ y = .own k d1) ∨ (j ≠ i ∧ ρ[j]? = some y) := by
    intro j y hy
    by_cases q : i = j
    · subst q
      rw [List.getElem?_set_self lt] at hy
      cases hy
      exact .inl ⟨rfl, rfl⟩
    · rw [List.getElem?_set_ne q] at hy
      exact .inr ⟨Ne.symm q, hy⟩
  refine ⟨ext_dlt S.ext h3 e fp, by rw [List.length_set]; exact S.len, fun j d hj => ?_, fun j l e' hj => ?_, fun j l a b e' f q hj hl g1 g2 => ?_⟩
  · rcases at_i hj with ⟨_, q⟩ | ⟨_, hj⟩
    · cases q
    · obtain ⟨v, g1, g2⟩ := S.val j d hj
      exact ⟨v, g1, Rep.mono e.f _ _ g2⟩
  · rcases at_i hj with ⟨rfl, q⟩ | ⟨q, hj⟩
    · cases q
      exact ⟨p, hp, fp, h3, ho, h5⟩
    · obtain ⟨r, g1, g2, g3, g4, g5⟩ := S.own j l e' hj
      have ne : r ≠ p := fun y => by subst y; exact q (S.dis j i l k e' d0 r hj hi g1 hp)
      obtain ⟨o, hr⟩ := g4.some
      refine ⟨r, g1, e.none g2 (o := o) (by rw [dlt_ne ne]; exact hr), g3, g4.keep e.f fun u hu => ?_, g5⟩
      exact e.h _ _ (by rw [dlt_ne ne]; exact hu)
  · rcases at_i hj with ⟨rfl, q1⟩ | ⟨q1, hj'⟩
    · rcases at_i hl with ⟨rfl, _⟩ | ⟨q2, hl'⟩
      · rfl
      · cases q1
        exact S.dis j l k b d0 f q hi hl' g1 g2
    · rcases at_i hl with ⟨rfl, q2⟩ | ⟨_, hl'⟩
      · cases q2
        exact S.dis j l a k e' d0 q hj' hi g1 g2
      · exact S.dis j l a b e' f q hj' hl' g1 g2
theorem de_callI {m : FnI} {i : Nat} {ta : TA} {f : DEnv → M (List D)} (h : DA w E ta f) : DE w E (tCall (spI w m) [] E (tCons (tVar i) ta)) (mCallI m i f) := fun z F0 B ρ σ H F Q S k => by
  unfold mCallI at k
  obtain ⟨ho, k⟩ := wpM_if k
  obtain ⟨kk, d, hi⟩ := isOwnA_of ho
  obtain ⟨p, h1, _⟩ := S.own i _ _ hi
  rw [wpM_bnd] at k
  refine ⟨_, h1, ?_⟩
  refine h z F0 B ρ σ H F _ S (k.mono fun ds ρ1 y vs H1 F1 S1 e1 r1 => ?_)
  split at y
  case h_2 => exact y.elim
  rename_i k1 d0 hi1
  obtain ⟨p1, g1, g2, g3, g4, g5⟩ := S1.own i _ _ hi1
  rw [h1] at g1
  cases g1
  refine ⟨F1, p, vs, d0, ds, by rw [List.append_nil], same_dlt S1.ext.i g2, g4, r1, ?_⟩
  cases q : m (d0 :: ds) with
  | none => rw [q] at y; exact y.elim
  | some o =>
  rw [q] at y
  cases o with
  | error ex =>
    obtain ⟨c, x⟩ := ex
    intro dd v H' F' e' hn hd r
    have y : XP w F0 B E c x := y
    by_cases q2 : F' p = none
    · refine y dd v H' F' (ext_dlt S1.ext g3 e' q2) ?_ hd r
      by_cases q3 : dd = p
      · subst q3; exact g3
      · rw [dlt_ne q3] at hn; exact S1.ext.h.free hn
    · -- the object is told of behind the error: it counts as a new one
      refine y dd v H' F' ⟨S1.ext.f.trans e'.f, fun a o q => e'.h a o (by rw [dlt_ne (fun y => by subst y; rw [g3] at q; cases q)]; exact S1.ext.h _ _ q), e'.i, fun a o q => ?_⟩ ?_ hd r
      · rcases e'.d a o q with r | r
        · exact S1.ext.d a o r
        · by_cases y : a = p
          · subst y; exact .inr g3
          · rw [dlt_ne y] at r
            exact .inr (S1.ext.h.free r)
      · by_cases q3 : dd = p
        · subst q3; exact g3
        · rw [dlt_ne q3] at hn; exact S1.ext.h.free hn
  | ok cd =>
    obtain ⟨c, d1⟩ := cd
    intro v H' F' e' fp ow rn
    have S2 := S1.callI hi1 h1 e' fp ow
    refine y v H' F' S2 (e1.trans e'.f) (RV.clr (z := z) ?_)
    cases c with
    | un => exact rn
    | val d => exact rn
    | own kc d =>
      obtain ⟨q, rfl, hq, qp, fq, oq⟩ := rn
      refine ⟨q, rfl, fq, S1.ext.h.free hq, oq, fun j kj e hj hs => ?_⟩
      by_cases ji : j = i
      · subst ji
        rw [h1] at hs
        cases hs
        exact qp rfl
      · rw [List.getElem?_set_ne (Ne.symm ji)] at hj
        obtain ⟨r, b1, b2, b3, b4, b5⟩ := S1.own j kj e hj
        rw [b1] at hs
        cases hs
        obtain ⟨o, ho'⟩ := b4.some
        rw [hq] at ho'
        cases ho'
/-! ### a new instance -/
def upMk (ρ : DEnv) (o : Option (Except (Nat × D) (Cell × D))) : M Cell := match o with
  | some (.ok (.val .non, d1)) => ret (.own false d1) ρ
  | some (.error (c, x)) => some (.exc c x)
  | _ => none
def mMake (c : Nat) (m : FnI) (f : DEnv → M (List D)) (ρ : DEnv) : M Cell := bnd (f ρ) fun ds ρ => upMk ρ (m (.ins c [] [] :: ds))
theorem make_core {c : Nat} {m : FnI} {z : Addr} {F0 B : Hp} {ρ : DEnv} {σ : L2.St} {H F : Hp} {vs : List V} {ds : List D} {Q : VK} (S : Sim w z F0 B ρ σ H F) (r : RepAll w F vs ds)
    (y : wpM (upMk ρ (m (.ins c [] [] :: ds))) (fun c ρ' => ∀ v H' F', Sim w z F0 B ρ' σ H' F' → Same F F' → RV w F0 B ρ' σ F' H' v c → Q v H') (XP w F0 B E)) :
    ∀ x dx, H x = none → H dx = none → dx ≠ x → spI w m (.ref x :: vs) (upd (upd H dx (.own x)) x (.ins (w.C c) dx [])) (fun v H2 => v = .non ∧ Q (.ref x) H2) E := by
  intro x dx hx hdx ne
  have dl : ∀ a o, H a = some o → dlt (upd (upd H dx (.own x)) x (.ins (w.C c) dx [])) x a = some o := fun a o q => by
    have a1 : a ≠ x := fun z => by subst z; rw [hx] at q; cases q
    have a2 : a ≠ dx := fun z => by subst z; rw [hdx] at q; cases q
    rw [dlt_ne a1, upd_ne a1, upd_ne a2]
    exact q
  refine ⟨F, x, vs, .ins c [] [], ds, rfl, fun a o q => dl a o (S.ext.i _ _ q), ⟨dx, [], upd_same, rfl, .nil⟩, r, ?_⟩
  have up : ∀ {F' H' : Hp}, Ext F (dlt (upd (upd H dx (.own x)) x (.ins (w.C c) dx [])) x) F' H' → Ext F H F' H' := fun e => ⟨e.f, fun a o q => e.h _ _ (dl a o q), e.i, fun a o q => by
    rcases e.d a o q with r | r
    · exact .inl r
    · refine .inr ?_
      cases q2 : H a with
      | none => rfl
      | some u => rw [dl a u q2] at r; cases r⟩
  cases q : m (.ins c [] [] :: ds) with
  | none => rw [q] at y; exact y.elim
  | some o =>
  rw [q] at y
  cases o with
  | error ex =>
    obtain ⟨c', x'⟩ := ex
    intro dd v H' F' e' hn hd r'
    have y : XP w F0 B E c' x' := y
    refine y dd v H' F' (S.ext.trans (up e')) ?_ hd r'
    cases q2 : B dd with
    | none => rfl
    | some u => rw [dl dd u (S.ext.h _ _ q2)] at hn; cases hn
  | ok cd =>
    obtain ⟨c', d1⟩ := cd
    cases c' with
    | un => exact y.elim
    | own _ _ => exact y.elim
    | val d =>
      cases d <;> first | exact y.elim | skip
      intro v H' F' e' fp ow rn
      have e2 := up e'
      have rn : Rep w F' v .non := rn
      refine ⟨by cases rn; rfl, y _ H' F' (S.grow e2) e2.f ⟨x, rfl, fp, S.ext.h.free hx, ow, fun j kj e hj hs => ?_⟩⟩
      obtain ⟨r', b1, b2, b3, b4, b5⟩ := S.own j kj e hj
      rw [b1] at hs
      cases hs
      obtain ⟨o, ho'⟩ := b4.some
      rw [hx] at ho'
      cases ho'
theorem de_make {c : Nat} {C : Addr} (hC : w.C c = C) {m : FnI} {ta : TA} {f : DEnv → M (List D)} (h : DA w E ta f) : DE w E (tMake C (spI w m) [] E ta) (mMake c m f) := fun z F0 B ρ σ H F Q S k => by
  subst hC
  unfold mMake at k
  rw [wpM_bnd] at k
  refine h z F0 B ρ σ H F _ S (k.mono fun ds ρ1 y vs H1 F1 S1 e1 r1 => ?_)
  intro x dx hx hdx ne
  rw [List.append_nil]
  exact make_core S1 r1 (y.mono fun c ρ' k2 v H' F' S' e' r' => k2 v H' F' S' (e1.trans e') r') x dx hx hdx ne
/-- C(e, .., k = v, ..) -/
def mMakeK (c n l : Nat) (m : FnI) (f g : DEnv → M (List D)) (ρ : DEnv) : M Cell := bnd (f ρ) fun ds ρ => bnd (g ρ) fun es ρ => if ds.length = n ∧ es.length = l then upMk ρ (m (.ins c [] [] :: (ds ++ es))) else none
theorem de_makeK {c n l : Nat} {C : Addr} (hC : w.C c = C) {m : FnI} {ta tk : TA} {f g : DEnv → M (List D)} (h : DA w E ta f) (hk : DA w E tk g) : DE w E (tMakeK C n l (spI w m) (fun vs zs => vs ++ zs) E ta tk) (mMakeK c n l m f g) := fun z F0 B ρ σ H F Q S k => by
  subst hC
  unfold mMakeK at k
  rw [wpM_bnd] at k
  refine h z F0 B ρ σ H F _ S (k.mono fun ds ρ1 y vs H1 F1 S1 e1 r1 => ?_)
  rw [wpM_bnd] at y
  refine hk z F0 B ρ1 σ H1 F1 _ S1 (y.mono fun es ρ2 y2 zs H2 F2 S2 e2 r2 => ?_)
  obtain ⟨⟨l1, l2⟩, y2⟩ := wpM_if y2
  refine ⟨r1.len.trans l1, r2.len.trans l2, fun x dx hx hdx ne => ?_⟩
  have rr := (RepAll.mono e2 _ _ r1).app r2
  exact make_core S2 rr (y2.mono fun c ρ' k2 v H' F' S' e' r' => k2 v H' F' S' (e1.trans (e2.trans e')) r') x dx hx hdx ne
end
end Dm

namespace Dm
open PySem PySem.Spec PyProof.Rows L2
section
variable {w : W} {E : XK}
/-! ### a def -/
def startE (np n : Nat) (ds : List D) : DEnv := ds.map .val ++ List.replicate (n - np) .un
def mFn (np n : Nat) (m : MS) : Fn := fun ds => if ds.length = np then match m (startE np n ds) with
    | some (.rt c _) => some (.ok (clr c))
    | some (.nx _) => some (.ok (.val .non))
    | some (.exc c x) => some (.error (c, x))
    | _ => none
  else none
theorem spP_len {np n : Nat} {m : MS} {vs : List V} {H : Hp} {Q : VK} (h : spP w (mFn np n m) vs H Q E) : vs.length = np := by
  obtain ⟨F, ds, i, r, h⟩ := h
  rw [r.len]
  unfold mFn at h
  split at h
  · assumption
  · exact h.elim
theorem start_at {n : Nat} {N : List Str} {vs : List V} {ds : List D} {F : Hp} (r : RepAll w F vs ds) (hN : N.length = n) : Sim w 0 F F (startE ds.length n ds) (L2.start N vs) F F := by
  have lv := r.len
  refine ⟨.refl (.refl _), ?_, fun i d h => ?_, fun i k d h => ?_, fun i j k l d e p h => ?_⟩
  · unfold L2.start startE
    rw [List.length_append, List.length_append, List.length_map, List.length_map, List.length_replicate, List.length_replicate, lv, hN]
  · unfold startE at h
    by_cases lt : i < ds.length
    · rw [List.getElem?_append_left (by rw [List.length_map]; exact lt), List.getElem?_map] at h
      cases q : ds[i]? with
      | none => rw [q] at h; cases h
      | some e =>
        rw [q] at h
        cases h
        obtain ⟨v, h1, h2⟩ := r.get q
        refine ⟨v, ?_, h2⟩
        unfold L2.start
        rw [List.getElem?_append_left (by rw [List.length_map, lv]; exact lt), List.getElem?_map, h1]
        rfl
    · rw [List.getElem?_append_right (by rw [List.length_map]; omega), List.getElem?_replicate] at h
      split at h <;> cases h
  · unfold startE at h
    by_cases lt : i < ds.length
    · rw [List.getElem?_append_left (by rw [List.length_map]; exact lt), List.getElem?_map] at h
      cases q : ds[i]? with
      | none => rw [q] at h; cases h
      | some e => rw [q] at h; cases h
    · rw [List.getElem?_append_right (by rw [List.length_map]; omega), List.getElem?_replicate] at h
      split at h <;> cases h
  · unfold startE at h
    by_cases lt : i < ds.length
    · rw [List.getElem?_append_left (by rw [List.length_map]; exact lt), List.getElem?_map] at h
      cases q : ds[i]? with
      | none => rw [q] at h; cases h
      | some e => rw [q] at h; cases h
    · rw [List.getElem?_append_right (by rw [List.length_map]; omega), List.getElem?_replicate] at h
      split at h <;> cases h
/-- into a larger heap -/
theorem Sim.inH {z : Addr} {ρ : DEnv} {σ : L2.St} {F H : Hp} (S : Sim w z F F ρ σ F F) (i : Same F H) (no : ∀ (j : Nat) (k : Bool) (d : D), ρ[j]? ≠ some (.own k d)) : Sim w z F H ρ σ H F :=
  ⟨.refl i, S.len, S.val, fun j k d h => (no j k d h).elim, S.dis⟩
theorem startE_no {np n : Nat} {ds : List D} (j : Nat) (k : Bool) (d : D) : (startE np n ds)[j]? ≠ some (.own k d) := by
  intro h
  unfold startE at h
  by_cases lt : j < ds.length
  · rw [List.getElem?_append_left (by rw [List.length_map]; exact lt), List.getElem?_map] at h
    cases q : ds[j]? with
    | none => rw [q] at h; cases h
    | some e => rw [q] at h; cases h
  · rw [List.getElem?_append_right (by rw [List.length_map]; omega), List.getElem?_replicate] at h
    split at h <;> cases h
theorem RV.rn {z : Addr} {F B : Hp} {ρ : DEnv} {σ : L2.St} {H' F' : Hp} {v : V} {c : Cell} (r : RV w F B ρ σ F' H' v c) : RN w F B F' H' v (Dm.clr c) := by
  cases c with
  | un => exact r
  | val d => exact r
  | own k d =>
    obtain ⟨p, h1, h2, h3, h4, _⟩ := r
    exact ⟨rfl, p, h1, h3, h2, h4⟩
theorem fnP {np n : Nat} {N : List Str} {m : MS} {ts : TS} {vs : List V} {H : Hp} {Q : VK} (hN : N.length = n) (hs : DS w E ts m) (h : spP w (mFn np n m) vs H Q E) : ts { nx := fun _ H' => Q .non H', rt := Q } (L2.start N vs) H := by
  obtain ⟨F, ds, i, r, h⟩ := h
  unfold mFn at h
  split at h
  case isFalse => exact h.elim
  rename_i hl
  subst hl
  refine hs 0 F H _ _ H F _ ((start_at r hN).inH i startE_no) ?_
  cases q : m (startE ds.length n ds) with
  | none => rw [q] at h; exact h.elim
  | some o =>
  rw [q] at h
  cases o with
  | nx ρ => exact fun σ' H' F' S' e => h _ H' F' S'.ext .non
  | rt c ρ => exact fun v σ' H' F' S' rv => h v H' F' S'.ext (RV.rn (z := 0) rv)
  | bk ρ => exact h.elim
  | ct ρ => exact h.elim
  | exc c x => exact h
/-! ### a def whose first argument is handed back changed -/
def startI (np n : Nat) (d0 : D) (ds : List D) : DEnv := .own true d0 :: (ds.map .val ++ List.replicate (n - np) .un)
def mFnI (np n : Nat) (m : MS) : FnI := fun ds => match ds with
  | d0 :: ds => if ds.length + 1 = np then match m (startI np n d0 ds) with
      | some (.rt c ρ) => match (ρ[0]? : Option Cell) with
        | some (.own true d1) => some (.ok (clr c, d1))
        | _ => none
      | some (.nx ρ) => match (ρ[0]? : Option Cell) with
        | some (.own true d1) => some (.ok (.val .non, d1))
        | _ => none
      | some (.exc c x) => some (.error (c, x))
      | _ => none
    else none
  | [] => none
theorem spI_len {np n : Nat} {m : MS} {vs : List V} {H : Hp} {Q : VK} (h : spI w (mFnI np n m) vs H Q E) : vs.length = np := by
  obtain ⟨F, p, ws, d0, ds, rfl, i, o, r, h⟩ := h
  have h : wpC (if ds.length + 1 = np then _ else none) _ _ := h
  split at h
  · rw [List.length_cons, r.len]; assumption
  · exact h.elim
theorem startI_at {n : Nat} {N : List Str} {p : Addr} {ws : List V} {d0 : D} {ds : List D} {F H : Hp} (i : Same F (dlt H p)) (o : Own w F H p d0) (r : RepAll w F ws ds) (hN : N.length = n) : Sim w p F (dlt H p) (startI (ds.length + 1) n d0 ds) (L2.start N (.ref p :: ws)) H F := by
  have lv := r.len
  have fp : F p = none := i.free dlt_same
  have iH : Same F H := fun a u e => by
    have := i a u e
    rw [dlt_ne (fun z => by subst z; rw [fp] at e; cases e)] at this
    exact this
  have hst : L2.start N (.ref p :: ws) = some (.ref p) :: (ws.map some ++ List.replicate (n - (ds.length + 1)) none) := by
    unfold L2.start
    rw [List.map_cons, List.cons_append, List.length_cons, lv, hN]
  rw [hst]
  unfold startI
  refine ⟨⟨.refl _, fun a u e => ?_, iH, fun a u e => .inl e⟩, ?_, fun j d h => ?_, fun j k d h => ?_, fun a b k l d e q ha hb g1 g2 => ?_⟩
  · by_cases z : a = p
    · subst z; rw [dlt_same] at e; cases e
    · rw [dlt_ne z] at e; exact e
  · rw [List.length_cons, List.length_cons, List.length_append, List.length_append, List.length_map, List.length_map, List.length_replicate, List.length_replicate, lv]
  · cases j with
    | zero => cases h
    | succ j =>
      rw [List.getElem?_cons_succ] at h ⊢
      by_cases lt : j < ds.length
      · rw [List.getElem?_append_left (by rw [List.length_map]; exact lt), List.getElem?_map] at h
        cases q : ds[j]? with
        | none => rw [q] at h; cases h
        | some e =>
          rw [q] at h
          cases h
          obtain ⟨v, h1, h2⟩ := r.get q
          refine ⟨v, ?_, h2⟩
          rw [List.getElem?_append_left (by rw [List.length_map, lv]; exact lt), List.getElem?_map, h1]
          rfl
      · rw [List.getElem?_append_right (by rw [List.length_map]; omega), List.getElem?_replicate] at h
        split at h <;> cases h
  · cases j with
    | zero =>
      cases h
      exact ⟨p, rfl, fp, dlt_same, o, fun _ => rfl⟩
    | succ j =>
      rw [List.getElem?_cons_succ] at h
      exact (startE_no (np := ds.length + 1) (n := n) (ds := ds) j k d h).elim
  · cases a with
    | zero =>
      cases b with
      | zero => rfl
      | succ b =>
        rw [List.getElem?_cons_succ] at hb
        exact (startE_no (np := ds.length + 1) (n := n) (ds := ds) b l e hb).elim
    | succ a =>
      rw [List.getElem?_cons_succ] at ha
      exact (startE_no (np := ds.length + 1) (n := n) (ds := ds) a k d ha).elim
theorem fnI {np n : Nat} {N : List Str} {m : MS} {ts : TS} {vs : List V} {H : Hp} {Q : VK} (hN : N.length = n) (hs : DS w E ts m) (h : spI w (mFnI np n m) vs H Q E) : ts { nx := fun _ H' => Q .non H', rt := Q } (L2.start N vs) H := by
  obtain ⟨F, p, ws, d0, ds, rfl, i, o, r, h⟩ := h
  have h : wpC (if ds.length + 1 = np then _ else none) _ _ := h
  split at h
  case isFalse => exact h.elim
  rename_i hl
  subst hl
  refine hs p F (dlt H p) _ _ H F _ (startI_at i o r hN) ?_
  cases q : m (startI (ds.length + 1) n d0 ds) with
  | none => rw [q] at h; exact h.elim
  | some u =>
  rw [q] at h
  cases u with
  | nx ρ =>
    intro σ' H' F' S' e
    simp only at h
    split at h
    case h_2 => exact h.elim
    rename_i d1 hd
    obtain ⟨p', h1, h2, h3, h4, h5⟩ := S'.own 0 true d1 hd
    obtain rfl := h5 rfl
    exact h _ H' F' S'.ext h2 h4 .non
  | rt c ρ =>
    intro v σ' H' F' S' rv
    simp only at h
    split at h
    case h_2 => exact h.elim
    rename_i d1 hd
    obtain ⟨p', h1, h2, h3, h4, h5⟩ := S'.own 0 true d1 hd
    obtain rfl := h5 rfl
    refine h v H' F' S'.ext h2 h4 ?_
    cases c with
    | un => exact rv
    | val d => exact rv
    | own k d =>
      obtain ⟨q', g1, g2, g3, g4, g5⟩ := rv
      have ne : q' ≠ p' := fun y => by subst y; exact g5 0 true d1 hd h1
      exact ⟨q', g1, by rw [dlt_ne ne] at g3; exact g3, ne, g2, g4⟩
  | bk ρ => exact h.elim
  | ct ρ => exact h.elim
  | exc c x => exact h
/-! ### looking at one's own without giving it up -/
def lay (ρ : DEnv) : DEnv := ρ.map fun c => match c with
  | .own _ d => .val d
  | c => c
def isFl : D → Bool := isF
def mPeek {α : Type} (ok : α → Bool) (f : DEnv → M α) (ρ : DEnv) : M α := match f (lay ρ) with
  | some (.ok d _) => if ok d = true then ret d ρ else none
  | _ => none
theorem Sim.lay {z : Addr} {F0 B : Hp} {ρ : DEnv} {σ : L2.St} {H F : Hp} (S : Sim w z F0 B ρ σ H F) : Sim w z H H (lay ρ) σ H H := by
  have no : ∀ (j : Nat) (k : Bool) (d : D), (Dm.lay ρ)[j]? ≠ some (.own k d) := by
    intro j k d h
    unfold Dm.lay at h
    rw [List.getElem?_map] at h
    cases q : ρ[j]? with
    | none => rw [q] at h; cases h
    | some c => rw [q] at h; cases c <;> cases h
  refine ⟨.refl (.refl _), by unfold Dm.lay; rw [List.length_map]; exact S.len, fun j d h => ?_, fun j k d h => (no j k d h).elim, fun i j k l d e p h => (no i k d h).elim⟩
  unfold Dm.lay at h
  rw [List.getElem?_map] at h
  cases q : ρ[j]? with
  | none => rw [q] at h; cases h
  | some c =>
    rw [q] at h
    cases c with
    | un => cases h
    | val e =>
      cases h
      obtain ⟨v, h1, h2⟩ := S.val j d q
      exact ⟨v, h1, Rep.mono S.ext.i _ _ h2⟩
    | own k e =>
      cases h
      obtain ⟨p, h1, h2, h3, h4, _⟩ := S.own j k d q
      exact ⟨_, h1, h4.repH S.ext.i⟩
theorem ext_of_lay {F H F' H' : Hp} (i : Same F H) (e : Ext H H F' H') : Ext F H F H' := ⟨.refl _, e.h, i.trans e.h, fun a o q => .inl q⟩
theorem flat_rep {F G : Hp} {v : V} {d : D} (h : isF d = true) (r : Rep w F v d) : Rep w G v d := by
  cases r <;> first | exact .non | exact .bl _ | exact .int _ | exact .str _ | cases h
theorem dv_peek {te : TE} {f : DEnv → M D} (h : DV w E te f) : DV w E te (mPeek isF f) := fun z F0 B ρ σ H F Q S k => by
  refine h z H H (lay ρ) σ H H Q S.lay ?_
  unfold mPeek at k
  cases q : f (lay ρ) with
  | none => rw [q] at k; exact k.elim
  | some r =>
  rw [q] at k
  cases r with
  | exc c x => exact k.elim
  | ok d ρ1 =>
    obtain ⟨hf, k⟩ := wpM_if k
    exact fun v H' F' S' e r => k v H' F (S.grow (ext_of_lay S.ext.i S'.ext)) (.refl _) (flat_rep hf r)
theorem dt_peek {tt : TT} {f : DEnv → M Bool} (h : DT w E tt f) : DT w E tt (mPeek (fun _ => true) f) := fun z F0 B ρ σ H F Q S k => by
  refine h z H H (lay ρ) σ H H Q S.lay ?_
  unfold mPeek at k
  cases q : f (lay ρ) with
  | none => rw [q] at k; exact k.elim
  | some r =>
  rw [q] at k
  cases r with
  | exc c x => exact k.elim
  | ok d ρ1 => exact fun H' F' S' e => k H' F (S.grow (ext_of_lay S.ext.i S'.ext)) (.refl _)
theorem dlook_own {F H : Hp} (i : Same F H) {a : Addr} {y : V} {t : Nat} {ks vs : List D} {x d : D} (r : Own w F H a (.dct t ks vs)) (ry : Rep w F y x) (h : dlook t ks vs x = some (some d)) : ∃ v, DGet H a y (some v) ∧ Rep w F v d := by
  unfold Own at r
  split at r
  · rename_i hd; cases hd
  · rename_i hd
    cases hd
    obtain ⟨kvs, h1, h2, h3⟩ := r
    subst h2
    have h : (key1 x).map (dlk key1 _ vs) = some (some d) := h
    cases q : key1 x with
    | none => rw [q] at h; cases h
    | some k =>
      rw [q] at h
      obtain ⟨e1, e2⟩ := key1_of ry q
      subst e1
      have z := dlk_val (w := w) key1_kD (F := F) k _ vs h3
      rw [show dlk key1 _ vs k = some d from Option.some.inj h] at z
      obtain ⟨v, hv, rv⟩ := z
      exact ⟨v, by rw [← hv]; exact DGet.k (k := k) h1, rv⟩
  · rename_i hd
    cases hd
    obtain ⟨kvs, h1, h2, h3⟩ := r
    subst h2
    have h : (keyT x).map (dlk keyT _ vs) = some (some d) := h
    cases q : keyT x with
    | none => rw [q] at h; cases h
    | some k =>
      rw [q] at h
      have h2 : dlk keyT _ vs k = some d := Option.some.inj h
      clear h
      cases x <;> simp only [keyT] at q <;> first | cases q | skip
      cases ry with
      | tup hy ry =>
        obtain ⟨e1, e2⟩ := keyL_of ry q
        subst e1
        have z := dlk_val (w := w) (key := keyT) (emb := fun k => D.tup (k.map kD)) (fun k => by simp only [keyT]; exact keyL_kD k) (F := F) k _ vs h3
        rw [h2] at z
        obtain ⟨v, hv, rv⟩ := z
        exact ⟨v, by rw [← hv]; exact DGet.t (k := k) h1 (i _ _ hy), rv⟩
  · rename_i hd; cases hd
  · exact r.elim
/-- an item of one's own list or dict -/
def ownIx (i : Nat) (ρ : DEnv) (x : D) : Option D := match ρ[i]? with
  | some (.own _ (.lst ds)) => match x with
    | .int j => atI ds j
    | _ => none
  | some (.own _ (.dct t ks vs)) => match dlook t ks vs x with
    | some (some d) => some d
    | _ => none
  | _ => none
def mIxO (i : Nat) (f : DEnv → M D) (ρ : DEnv) : M D := if isOwnA ρ i = true then bnd (f ρ) fun x ρ => match ownIx i ρ x with
    | some d => ret d ρ
    | none => none
  else none
theorem dv_ixO {i : Nat} {te : TE} {f : DEnv → M D} (h : DV w E te f) : DV w E (tOp (rIxD w.K) (tVar i) te) (mIxO i f) := fun z F0 B ρ σ H F Q S k => by
  unfold mIxO at k
  obtain ⟨ho, k⟩ := wpM_if k
  obtain ⟨kk, d, hi⟩ := isOwnA_of ho
  obtain ⟨p, h1, _⟩ := S.own i _ _ hi
  rw [wpM_bnd] at k
  refine ⟨_, h1, ?_⟩
  refine h z F0 B ρ σ H F _ S (k.mono fun x ρ1 y v H1 F1 S1 e1 r1 => ?_)
  cases q : ownIx i ρ1 x with
  | none => rw [q] at y; exact y.elim
  | some e =>
  rw [q] at y
  unfold ownIx at q
  split at q
  · rename_i k2 ds hi2
    obtain ⟨p2, g1, g2, g3, g4, g5⟩ := S1.own i _ _ hi2
    rw [h1] at g1
    cases g1
    obtain ⟨us, hu, ru⟩ := g4
    split at q
    · cases r1
      obtain ⟨u, hu2, r2⟩ := atI_rep ru q
      exact .inl ⟨_, _, _, u, rfl, rfl, sqL hu, hu2, y u H1 F1 S1 e1 r2⟩
    · cases q
  · rename_i k2 t ks vs hi2
    obtain ⟨p2, g1, g2, g3, g4, g5⟩ := S1.own i _ _ hi2
    rw [h1] at g1
    cases g1
    split at q
    · rename_i d' hd
      cases q
      obtain ⟨u, hg, ru⟩ := dlook_own S1.ext.i g4 r1 hd
      exact .inr (.inr (.inr ⟨p, u, rfl, hg, y u H1 F1 S1 e1 ru⟩))
    · cases q
  · cases q
end
end Dm

namespace Dm
open PySem PySem.Spec PyProof.Rows L2
section
variable {w : W} {E : XK}
/-! ### builtins -/
def intsD : List D → Option (List Int)
  | [] => some []
  | .int i :: ds => (intsD ds).map (i :: ·)
  | _ => none
def boolsD : List D → Option (List Bool)
  | [] => some []
  | .bl i :: ds => (boolsD ds).map (i :: ·)
  | _ => none
def strsD : List D → Option (List Str)
  | [] => some []
  | .str i :: ds => (strsD ds).map (i :: ·)
  | _ => none
theorem ints_of {F : Hp} : ∀ {vs : List V} {ds : List D} {ns : List Int}, RepAll w F vs ds → intsD ds = some ns → vs = ns.map V.int
  | _, _, _, .nil, h => by simp only [intsD] at h; cases h; rfl
  | _, _, _, .cons (d := d) (ds := ds) r rs, h => by
    cases d <;> simp only [intsD] at h <;> first | cases h | skip
    cases q : intsD ds with
    | none => rw [q] at h; cases h
    | some ns => rw [q] at h; cases h; cases r; rw [ints_of rs q]; rfl
theorem bools_of {F : Hp} : ∀ {vs : List V} {ds : List D} {ns : List Bool}, RepAll w F vs ds → boolsD ds = some ns → vs = ns.map V.bl
  | _, _, _, .nil, h => by simp only [boolsD] at h; cases h; rfl
  | _, _, _, .cons (d := d) (ds := ds) r rs, h => by
    cases d <;> simp only [boolsD] at h <;> first | cases h | skip
    cases q : boolsD ds with
    | none => rw [q] at h; cases h
    | some ns => rw [q] at h; cases h; cases r; rw [bools_of rs q]; rfl
theorem strs_of {F : Hp} : ∀ {vs : List V} {ds : List D} {ns : List Str}, RepAll w F vs ds → strsD ds = some ns → vs = ns.map V.str
  | _, _, _, .nil, h => by simp only [strsD] at h; cases h; rfl
  | _, _, _, .cons (d := d) (ds := ds) r rs, h => by
    cases d <;> simp only [strsD] at h <;> first | cases h | skip
    cases q : strsD ds with
    | none => rw [q] at h; cases h
    | some ns => rw [q] at h; cases h; cases r; rw [strs_of rs q]; rfl
theorem rep_strs {F : Hp} : ∀ (ns : List Str), RepAll w F (ns.map V.str) (ns.map D.str)
  | [] => .nil
  | n :: ns => .cons (.str n) (rep_strs ns)
theorem rep_ints {F : Hp} : ∀ (ns : List Int), RepAll w F (ns.map V.int) (ns.map D.int)
  | [] => .nil
  | n :: ns => .cons (.int n) (rep_ints ns)
theorem rep1 {F : Hp} {vs : List V} {d : D} (r : RepAll w F vs [d]) : ∃ v, vs = [v] ∧ Rep w F v d := by
  cases r with
  | cons r1 r2 => cases r2; exact ⟨_, rfl, r1⟩
theorem rep2 {F : Hp} {vs : List V} {d e : D} (r : RepAll w F vs [d, e]) : ∃ v u, vs = [v, u] ∧ Rep w F v d ∧ Rep w F u e := by
  cases r with
  | cons r1 r2 =>
    obtain ⟨u, rfl, r3⟩ := rep1 r2
    exact ⟨_, _, rfl, r1, r3⟩
/-- len -/
def gLen : List D → Option Cell
  | [.lst xs] => cI xs.length
  | [.tup xs] => cI xs.length
  | [.str s] => if s.length ≤ big then cI s.length else none
  | [.dct t ks _] => cI ks.length
  | [.scr ns] => cI ns.length
  | _ => none
def rLenK (K : PySem.W.Frag) : List V → Hp → VK → Prop := fun xs H Q => (∃ x n, xs = [x] ∧ LenV K x H n ∧ Q (.int (n : Nat)) H) ∨ (∃ a kvs, xs = [V.ref a] ∧ H a = some (.dK kvs) ∧ Q (.int kvs.length) H) ∨ rLenT xs H Q
theorem call_lenA {X : Cx} {K : PySem.W.Frag} (hK : X.K = K) : CallR X (.builtin "len") (rLenK K) := by
  subst hK
  exact call_len.or (call_lenD.or call_len_dT)
theorem db_len : DB w (rLenK w.K) gLen := fun F H vs ds Q i r h => by
  unfold gLen at h
  split at h
  · obtain ⟨v, rfl, rr⟩ := rep1 r
    cases rr with
    | lst h1 h2 => exact .inl ⟨_, _, rfl, .inl ⟨_, sqL (i _ _ h1), rfl⟩, by rw [h2.len]; exact Res.val0 h i (.int _)⟩
  · obtain ⟨v, rfl, rr⟩ := rep1 r
    cases rr with
    | tup h1 h2 => exact .inl ⟨_, _, rfl, .inr ⟨_, sqT (i _ _ h1), rfl⟩, by rw [h2.len]; exact Res.val0 h i (.int _)⟩
  · obtain ⟨v, rfl, rr⟩ := rep1 r
    cases rr
    obtain ⟨hl, h⟩ := wpO_if h
    exact .inl ⟨_, _, rfl, (show _ ∧ _ from ⟨big_le hl, rfl⟩), Res.val0 h i (.int _)⟩
  · obtain ⟨v, rfl, rr⟩ := rep1 r
    cases rr with
    | dK h1 h2 h3 =>
      subst h2
      rw [List.length_map] at h
      exact .inr (.inl ⟨_, _, rfl, i _ _ h1, Res.val0 h i (.int _)⟩)
    | dT h1 h2 h3 =>
      subst h2
      rw [List.length_map] at h
      exact .inr (.inr ⟨_, _, rfl, i _ _ h1, Res.val0 h i (.int _)⟩)
  · obtain ⟨v, rfl, rr⟩ := rep1 r
    cases rr with
    | scr h1 => exact .inl ⟨_, _, rfl, .inl ⟨_, same_sqL i h1, rfl⟩, by rw [List.length_map]; exact Res.val0 h i (.int _)⟩
  · exact h.elim
/-- int of an int or a truth -/
def gInt : List D → Option Cell
  | [.int i] => cI i
  | [.bl b] => cI (if b then 1 else 0)
  | _ => none
theorem db_int : DB w (fun xs H Q => (∃ i, xs = [.int i] ∧ Q (.int i) H) ∨ ∃ k, xs = [.bl k] ∧ Q (.int (if k then 1 else 0)) H) gInt := fun F H vs ds Q i r h => by
  unfold gInt at h
  split at h
  · obtain ⟨v, rfl, rr⟩ := rep1 r
    cases rr
    exact .inl ⟨_, rfl, Res.val0 h i (.int _)⟩
  · obtain ⟨v, rfl, rr⟩ := rep1 r
    cases rr
    exact .inr ⟨_, rfl, Res.val0 h i (.int _)⟩
  · exact h.elim
def gAbs : List D → Option Cell
  | [.int i] => cI (if i < 0 then -i else i)
  | _ => none
theorem db_abs : DB w (fun xs H Q => ∃ i, xs = [.int i] ∧ Q (.int (if i < 0 then -i else i)) H) gAbs := fun F H vs ds Q i r h => by
  unfold gAbs at h
  split at h
  · obtain ⟨v, rfl, rr⟩ := rep1 r
    cases rr
    exact ⟨_, rfl, Res.val0 h i (.int _)⟩
  · exact h.elim
/-- list, tuple of a list or tuple -/
def gList : List D → Option Cell
  | [.lst xs] => some (.own false (.lst xs))
  | [.tup xs] => some (.own false (.lst xs))
  | _ => none
def rListA (K : PySem.W.Frag) : List V → Hp → VK → Prop := fun xs H Q => ∃ p ys, xs = [.ref p] ∧ (SqL K H p ys ∨ SqT K H p ys) ∧ ∀ l, H l = none → Q (.ref l) (upd H l (.lst ys))
theorem call_listA {X : Cx} {K : PySem.W.Frag} (hK : X.K = K) : CallR X (.type "list") (rListA K) := by subst hK; exact call_list_of
theorem db_list : DB w (rListA w.K) gList := fun F H vs ds Q i r h => by
  unfold gList at h
  split at h
  · obtain ⟨v, rfl, rr⟩ := rep1 r
    cases rr with
    | lst h1 h2 => exact ⟨_, _, rfl, .inl (sqL (i _ _ h1)), fun p hp => Res.newLst h i hp h2⟩
  · obtain ⟨v, rfl, rr⟩ := rep1 r
    cases rr with
    | tup h1 h2 => exact ⟨_, _, rfl, .inr (sqT (i _ _ h1)), fun p hp => Res.newLst h i hp h2⟩
  · exact h.elim
def gTuple : List D → Option Cell
  | [.lst xs] => some (.val (.tup xs))
  | [.tup xs] => some (.val (.tup xs))
  | _ => none
def rTupA (K : PySem.W.Frag) : List V → Hp → VK → Prop := fun xs H Q => ∃ p ys, xs = [.ref p] ∧ ((SqL K H p ys ∧ ∀ l, H l = none → Q (.ref l) (upd H l (.tup ys))) ∨ (SqT K H p ys ∧ Q (.ref p) H))
theorem call_tupA {X : Cx} {K : PySem.W.Frag} (hK : X.K = K) : CallR X (.type "tuple") (rTupA K) := by subst hK; exact call_tuple_of
theorem db_tuple : DB w (rTupA w.K) gTuple := fun F H vs ds Q i r h => by
  unfold gTuple at h
  split at h
  · obtain ⟨v, rfl, rr⟩ := rep1 r
    cases rr with
    | lst h1 h2 => exact ⟨_, _, rfl, .inl ⟨sqL (i _ _ h1), fun p hp => Res.newTup h i hp h2⟩⟩
  · obtain ⟨v, rfl, rr⟩ := rep1 r
    have r0 := rr
    cases rr with
    | tup h1 h2 => exact ⟨_, _, rfl, .inr ⟨sqT (i _ _ h1), Res.val0 h i r0⟩⟩
  · exact h.elim
/-- max, min -/
def maxI : List Int → Option Int
  | [] => none
  | x :: xs => some (xs.foldl max x)
def minI : List Int → Option Int
  | [] => none
  | x :: xs => some (xs.foldl min x)
theorem foldl_max : ∀ (xs : List Int) (x : Int), x ≤ xs.foldl max x ∧ (∀ y ∈ xs, y ≤ xs.foldl max x) ∧ xs.foldl max x ∈ x :: xs
  | [], x => ⟨Int.le_refl _, by simp, by simp⟩
  | a :: xs, x => by
    obtain ⟨h1, h2, h3⟩ := foldl_max xs (max x a)
    simp only [List.foldl_cons]
    refine ⟨Int.le_trans (Int.le_max_left _ _) h1, fun y hy => ?_, ?_⟩
    · rcases List.mem_cons.mp hy with rfl | hy
      · exact Int.le_trans (Int.le_max_right _ _) h1
      · exact h2 y hy
    · rcases List.mem_cons.mp h3 with h | h
      · rw [h]
        by_cases q : x ≤ a
        · rw [Int.max_eq_right q]; simp
        · rw [Int.max_eq_left (by omega)]; simp
      · exact List.mem_cons_of_mem _ (List.mem_cons_of_mem _ h)
theorem foldl_min : ∀ (xs : List Int) (x : Int), xs.foldl min x ≤ x ∧ (∀ y ∈ xs, xs.foldl min x ≤ y) ∧ xs.foldl min x ∈ x :: xs
  | [], x => ⟨Int.le_refl _, by simp, by simp⟩
  | a :: xs, x => by
    obtain ⟨h1, h2, h3⟩ := foldl_min xs (min x a)
    simp only [List.foldl_cons]
    refine ⟨Int.le_trans h1 (Int.min_le_left _ _), fun y hy => ?_, ?_⟩
    · rcases List.mem_cons.mp hy with rfl | hy
      · exact Int.le_trans h1 (Int.min_le_right _ _)
      · exact h2 y hy
    · rcases List.mem_cons.mp h3 with h | h
      · rw [h]
        by_cases q : x ≤ a
        · rw [Int.min_eq_left q]; simp
        · rw [Int.min_eq_right (by omega)]; simp
      · exact List.mem_cons_of_mem _ (List.mem_cons_of_mem _ h)
def gMax : List D → Option Cell
  | [.int i, .int j] => cI (if j > i then j else i)
  | [.lst xs] => (intsD xs).bind fun ns => (maxI ns).bind cI
  | _ => none
def gMin : List D → Option Cell
  | [.int i, .int j] => cI (if j < i then j else i)
  | [.lst xs] => (intsD xs).bind fun ns => (minI ns).bind cI
  | _ => none
def rMaxA (K : PySem.W.Frag) : List V → Hp → VK → Prop := fun xs H Q => (∃ i j, xs = [.int i, .int j] ∧ Q (.int (if j > i then j else i)) H) ∨ rMax K xs H Q
def rMinA (K : PySem.W.Frag) : List V → Hp → VK → Prop := fun xs H Q => (∃ i j, xs = [.int i, .int j] ∧ Q (.int (if j < i then j else i)) H) ∨ rMin K xs H Q
theorem call_maxA {X : Cx} {K : PySem.W.Frag} (hK : X.K = K) (hc : X.calm = true) : CallR X (.builtin "max") (rMaxA K) := by subst hK; exact (call_max2 hc).or (cr_max hc)
theorem call_minA {X : Cx} {K : PySem.W.Frag} (hK : X.K = K) (hc : X.calm = true) : CallR X (.builtin "min") (rMinA K) := by subst hK; exact (call_min2 hc).or (cr_min hc)
theorem db_max : DB w (rMaxA w.K) gMax := fun F H vs ds Q i r h => by
  unfold gMax at h
  split at h
  · obtain ⟨v, u, rfl, rr, r2⟩ := rep2 r
    cases rr; cases r2
    exact .inl ⟨_, _, rfl, Res.val0 h i (.int _)⟩
  · rename_i xs
    obtain ⟨v, rfl, rr⟩ := rep1 r
    cases rr with
    | lst h1 h2 =>
      cases q : intsD xs with
      | none => rw [q] at h; exact h.elim
      | some ns =>
        rw [q] at h
        cases ns with
        | nil => exact h.elim
        | cons x xs' =>
          rw [ints_of h2 q] at h1
          obtain ⟨g1, g2, g3⟩ := foldl_max xs' x
          refine .inr ⟨_, _, rfl, sqL (i _ _ h1), by simp, fun m hm hle => ?_⟩
          have : m = xs'.foldl max x := by
            have a := hle _ g3
            have b : m ≤ xs'.foldl max x := by
              rcases List.mem_cons.mp hm with rfl | hm
              · exact g1
              · exact g2 m hm
            omega
          rw [this]
          exact Res.val0 h i (.int _)
  · exact h.elim
theorem db_min : DB w (rMinA w.K) gMin := fun F H vs ds Q i r h => by
  unfold gMin at h
  split at h
  · obtain ⟨v, u, rfl, rr, r2⟩ := rep2 r
    cases rr; cases r2
    exact .inl ⟨_, _, rfl, Res.val0 h i (.int _)⟩
  · rename_i xs
    obtain ⟨v, rfl, rr⟩ := rep1 r
    cases rr with
    | lst h1 h2 =>
      cases q : intsD xs with
      | none => rw [q] at h; exact h.elim
      | some ns =>
        rw [q] at h
        cases ns with
        | nil => exact h.elim
        | cons x xs' =>
          rw [ints_of h2 q] at h1
          obtain ⟨g1, g2, g3⟩ := foldl_min xs' x
          refine .inr ⟨_, _, rfl, sqL (i _ _ h1), by simp, fun m hm hle => ?_⟩
          have : m = xs'.foldl min x := by
            have a := hle _ g3
            have b : xs'.foldl min x ≤ m := by
              rcases List.mem_cons.mp hm with rfl | hm
              · exact g1
              · exact g2 m hm
            omega
          rw [this]
          exact Res.val0 h i (.int _)
  · exact h.elim
def gSum : List D → Option Cell
  | [.lst xs] => (intsD xs).bind fun ns => cI ns.sum
  | _ => none
theorem call_sumA {X : Cx} {K : PySem.W.Frag} (hK : X.K = K) (hc : X.calm = true) : CallR X (.builtin "sum") (rSum K) := by subst hK; exact cr_sum hc
theorem db_sum : DB w (rSum w.K) gSum := fun F H vs ds Q i r h => by
  unfold gSum at h
  split at h
  · rename_i xs
    obtain ⟨v, rfl, rr⟩ := rep1 r
    cases rr with
    | lst h1 h2 =>
      cases q : intsD xs with
      | none => rw [q] at h; exact h.elim
      | some ns =>
        rw [q] at h
        rw [ints_of h2 q] at h1
        exact ⟨_, _, rfl, sqL (i _ _ h1), Res.val0 h i (.int _)⟩
  · exact h.elim
def gAll : List D → Option Cell
  | [.lst xs] => (boolsD xs).bind fun ns => cB (ns.all id)
  | _ => none
def gAny : List D → Option Cell
  | [.lst xs] => (boolsD xs).bind fun ns => cB (ns.any id)
  | _ => none
theorem call_allA {X : Cx} {K : PySem.W.Frag} (hK : X.K = K) (hc : X.calm = true) : CallR X (.builtin "all") (rAll K) := by subst hK; exact cr_all hc
theorem call_anyA {X : Cx} {K : PySem.W.Frag} (hK : X.K = K) (hc : X.calm = true) : CallR X (.builtin "any") (rAny K) := by subst hK; exact cr_any hc
theorem db_all : DB w (rAll w.K) gAll := fun F H vs ds Q i r h => by
  unfold gAll at h
  split at h
  · rename_i xs
    obtain ⟨v, rfl, rr⟩ := rep1 r
    cases rr with
    | lst h1 h2 =>
      cases q : boolsD xs with
      | none => rw [q] at h; exact h.elim
      | some ns =>
        rw [q] at h
        rw [bools_of h2 q] at h1
        exact ⟨_, _, rfl, sqL (i _ _ h1), Res.val0 h i (.bl _)⟩
  · exact h.elim
theorem db_any : DB w (rAny w.K) gAny := fun F H vs ds Q i r h => by
  unfold gAny at h
  split at h
  · rename_i xs
    obtain ⟨v, rfl, rr⟩ := rep1 r
    cases rr with
    | lst h1 h2 =>
      cases q : boolsD xs with
      | none => rw [q] at h; exact h.elim
      | some ns =>
        rw [q] at h
        rw [bools_of h2 q] at h1
        exact ⟨_, _, rfl, sqL (i _ _ h1), Res.val0 h i (.bl _)⟩
  · exact h.elim
/-- str -/
def gStr : List D → Option Cell
  | [.str s] => cS s
  | [.int i] => if i.natAbs.log2 < 1920 then cS (toString i) else none
  | _ => none
def rStrA : List V → Hp → VK → Prop := fun xs H Q => (∃ a, xs = [.str a] ∧ Q (.str a) H) ∨ ∃ i, xs = [.int i] ∧ i.natAbs.log2 < 1920 ∧ Q (.str (toString i)) H
theorem call_strA {X : Cx} : CallR X (.type "str") rStrA := SkE.call_str_str.or call_str_int
theorem db_str : DB w rStrA gStr := fun F H vs ds Q i r h => by
  unfold gStr at h
  split at h
  · obtain ⟨v, rfl, rr⟩ := rep1 r
    cases rr
    exact .inl ⟨_, rfl, Res.val0 h i (.str _)⟩
  · obtain ⟨v, rfl, rr⟩ := rep1 r
    cases rr
    obtain ⟨hl, h⟩ := wpO_if h
    exact .inr ⟨_, rfl, hl, Res.val0 h i (.str _)⟩
  · exact h.elim
/-- dict(d) -/
def gDict : List D → Option Cell
  | [.dct 0 ks vs] => some (.own false (.dct 0 ks vs))
  | _ => none
theorem db_dict : DB w (fun xs H Q => ∃ (a : Addr) (kvs : List (Key × V)), xs = [.ref a] ∧ Rd H a (.dK kvs) ∧ ∀ p, H p = none → Q (.ref p) (upd H p (.dK kvs))) gDict := fun F H vs ds Q i r h => by
  unfold gDict at h
  split at h
  · obtain ⟨v, rfl, rr⟩ := rep1 r
    cases rr with
    | dK h1 h2 h3 => exact ⟨_, _, rfl, .inl (i _ _ h1), fun p hp => Res.mine h i hp ⟨_, upd_same, h2, h3⟩⟩
  · exact h.elim
/-- isinstance of a built-in class -/
def kdD : D → String
  | .non => "NoneType"
  | .bl _ => "bool"
  | .int _ => "int"
  | .str _ => "str"
  | .tup _ => "tuple"
  | .lst _ => "list"
  | .dct _ _ _ => "dict"
  | .ins _ _ _ => ""
  | .scr _ => ""
def isIns : D → Bool
  | .ins _ _ _ => true
  | .scr _ => true
  | _ => false
def isiB (a T : String) : Bool := if T = "int" then a == "int" || a == "bool" else a == T
theorem kit_tab : ∀ a ∈ ["NoneType", "bool", "int", "str", "list", "tuple", "dict"], ∀ T ∈ ["bool", "int", "str", "list", "tuple", "dict"], kitB a T = some (isiB a T) := by decide +kernel
theorem rep_ty {F H : Hp} (i : Same F H) {v : V} {d : D} (r : Rep w F v d) (h : isIns d = false) : TyX w.K H v (.type (kdD d)) ∧ kdD d ∈ ["NoneType", "bool", "int", "str", "list", "tuple", "dict"] := by
  cases r with
  | non => exact ⟨.base .non, by simp [kdD]⟩
  | bl b => exact ⟨.base (.bl b), by simp [kdD]⟩
  | int b => exact ⟨.base (.int b), by simp [kdD]⟩
  | str b => exact ⟨.base (.str b), by simp [kdD]⟩
  | tup h1 _ => exact ⟨.base (.tup (i _ _ h1)), by simp [kdD]⟩
  | lst h1 _ => exact ⟨.base (.lst (i _ _ h1)), by simp [kdD]⟩
  | dK h1 _ _ => exact ⟨.base (.dK (i _ _ h1)), by simp [kdD]⟩
  | dT h1 _ _ => exact ⟨.base (.dT (i _ _ h1)), by simp [kdD]⟩
  | ins _ _ _ => cases h
  | scr _ => cases h
def mIsi (T : String) (f : DEnv → M D) (ρ : DEnv) : M Cell := bnd (f ρ) fun d ρ => if isIns d = false then ret (.val (.bl (isiB (kdD d) T))) ρ else none
theorem call_isiA {X : Cx} {K : PySem.W.Frag} (hK : X.K = K) : CallR X (.builtin "isinstance") (rIsi K) := by subst hK; exact call_isi
theorem de_isi {T : String} (hT : T ∈ ["bool", "int", "str", "list", "tuple", "dict"]) {te : TE} {f : DEnv → M D} (h : DV w E te f) : DE w E (tCB (rIsi w.K) (tCons te (tCons (tC (.ty T)) tNil))) (mIsi T f) := fun z F0 B ρ σ H F Q S k => by
  unfold mIsi at k
  rw [wpM_bnd] at k
  refine h z F0 B ρ σ H F _ S (k.mono fun d ρ1 y v H1 F1 S1 e1 r1 => ?_)
  obtain ⟨hi, y⟩ := wpM_if y
  obtain ⟨t1, t2⟩ := rep_ty S1.ext.i r1 hi
  exact ⟨v, .ty T, _, _, _, rfl, .ty T, t1, kit_ty (kit_tab _ t2 _ hT), y _ H1 F1 S1 e1 (.bl _)⟩
/-- isinstance(x, (A, B)) of built-in classes -/
def mIsi2 (T U : String) (f : DEnv → M D) (ρ : DEnv) : M Cell := bnd (f ρ) fun d ρ => if isIns d = false then ret (.val (.bl (isiB (kdD d) T || isiB (kdD d) U))) ρ else none
theorem call_isiTA {X : Cx} {K : PySem.W.Frag} (hK : X.K = K) : CallR X (.builtin "isinstance") (rIsiT K) := by subst hK; exact call_isiT
theorem de_isi2 {T U : String} (hT : T ∈ ["bool", "int", "str", "list", "tuple", "dict"]) (hU : U ∈ ["bool", "int", "str", "list", "tuple", "dict"]) {te : TE} {f : DEnv → M D} (h : DV w E te f) :
    DE w E (tCB (rIsiT w.K) (tCons te (tCons (tTup (tCons (tC (.ty T)) (tCons (tC (.ty U)) tNil))) tNil))) (mIsi2 T U f) := fun z F0 B ρ σ H F Q S k => by
  unfold mIsi2 at k
  rw [wpM_bnd] at k
  refine h z F0 B ρ σ H F _ S (k.mono fun d ρ1 y v H1 F1 S1 e1 r1 => ?_)
  obtain ⟨hi, y⟩ := wpM_if y
  refine ⟨(show 2 ≤ sizeLine by decide), fun p hp => ?_⟩
  have e2 : Ext F1 H1 F1 (upd H1 p (.tup [.ty T, .ty U])) := Ext.mine S1.ext.i hp
  obtain ⟨t1, t2⟩ := rep_ty (e2.i) r1 hi
  refine ⟨v, p, _, _, [.type T, .type U], _, rfl, upd_same, .cons (.ty T) (.cons (.ty U) .nil), t1, ?_, y _ _ F1 (S1.grow e2) e1 (.bl (isiB (kdD d) T || isiB (kdD d) U))⟩
  refine kitAny_cons (b := isiB (kdD d) T) (kit_ty (kit_tab _ t2 _ hT)) (fun hb => ?_) (fun hb => by rw [hb]; rfl)
  refine kitAny_cons (b := isiB (kdD d) U) (kit_ty (kit_tab _ t2 _ hU)) (fun hc => ?_) (fun hc => by rw [hb, hc]; rfl)
  rw [hb, hc]
  rfl
end
end Dm

namespace Dm
open PySem PySem.Spec PyProof.Rows L2
section
variable {w : W} {E : XK}
/-! ### names -/
def mAndV (f g : DEnv → M D) (ρ : DEnv) : M D := bnd (mTest f ρ) fun b ρ => if b = true then g ρ else ret (.bl false) ρ
def mOrV (f g : DEnv → M D) (ρ : DEnv) : M D := bnd (mTest f ρ) fun b ρ => if b = true then ret (.bl true) ρ else g ρ
def mNotV (f : DEnv → M D) (ρ : DEnv) : M D := bnd (mTest f ρ) fun b ρ => ret (.bl (!b)) ρ
theorem dv_andV {ta tb : TE} {f g : DEnv → M D} (h1 : DV w E ta f) (h2 : DV w E tb g) : DV w E (tAndV ta tb) (mAndV f g) := dv_and h1 h2
theorem dv_orV {ta tb : TE} {f g : DEnv → M D} (h1 : DV w E ta f) (h2 : DV w E tb g) : DV w E (tOrV ta tb) (mOrV f g) := dv_or h1 h2
theorem dv_notV {ta : TE} {f : DEnv → M D} (h1 : DV w E ta f) : DV w E (tNotV ta) (mNotV f) := dv_not h1
def gNeg : D → Option Cell
  | .int i => cI (-i)
  | _ => none
theorem d1_negG : D1 w (rU fun i => .int (-i)) gNeg := fun F H x d Q i rx h => by
  cases d <;> first | exact h.elim | skip
  cases rx
  exact ⟨_, rfl, Res.val0 h i (.int _)⟩
def gOrd (p : Int → Int → Bool) (q : Str → Str → Bool) : D → D → Option Cell
  | .int i, .int j => cB (p i j)
  | .str a, .str b => cB (q a b)
  | _, _ => none
def rOrd (p : Int → Int → Bool) (q : Str → Str → Bool) : R2 := fun x y H Q => rI0 (fun i j => .bl (p i j)) x y H Q ∨ (∃ i j, x = .str i ∧ y = .str j ∧ Q (.bl (q i j)) H)
theorem d2_ord {p : Int → Int → Bool} {q : Str → Str → Bool} : D2 w (rOrd p q) (gOrd p q) := fun F H x y d e Q i rx ry h => by
  cases d <;> cases e <;> first | exact h.elim | skip
  · cases rx; cases ry
    exact .inl ⟨_, _, rfl, rfl, Res.val0 h i (.bl _)⟩
  · cases rx; cases ry
    exact .inr ⟨_, _, rfl, rfl, Res.val0 h i (.bl _)⟩
def gLe : D → D → Option Cell := gOrd (fun i j => decide (i ≤ j)) fun a b => !decide (b.cps.toList < a.cps.toList)
def gGt : D → D → Option Cell := gOrd (fun i j => decide (j < i)) fun a b => decide (b.cps.toList < a.cps.toList)
def gGe : D → D → Option Cell := gOrd (fun i j => decide (j ≤ i)) fun a b => !decide (a.cps.toList < b.cps.toList)
theorem d2_le : D2 w (rOrd (fun i j => decide (i ≤ j)) fun a b => !decide (b.cps.toList < a.cps.toList)) gLe := d2_ord
theorem d2_gt : D2 w (rOrd (fun i j => decide (j < i)) fun a b => decide (b.cps.toList < a.cps.toList)) gGt := d2_ord
theorem d2_ge : D2 w (rOrd (fun i j => decide (j ≤ i)) fun a b => !decide (a.cps.toList < b.cps.toList)) gGe := d2_ord
theorem op_leD {X : Cx} : OpR X (compareOp .LtE) (rOrd (fun i j => decide (i ≤ j)) fun a b => !decide (b.cps.toList < a.cps.toList)) := op_le.or op_le_str
theorem op_gtD {X : Cx} : OpR X (compareOp .Gt) (rOrd (fun i j => decide (j < i)) fun a b => decide (b.cps.toList < a.cps.toList)) := op_gt.or op_gt_str
theorem op_geD {X : Cx} : OpR X (compareOp .GtE) (rOrd (fun i j => decide (j ≤ i)) fun a b => !decide (a.cps.toList < b.cps.toList)) := op_ge.or op_ge_str
def gIsN (d e : D) : Option Cell := if isNonD e = true then cB (isNonD d) else none
def gNotN (d e : D) : Option Cell := if isNonD e = true then cB (!isNonD d) else none
theorem d2_isNG : D2 w (fun x y H Q => y = .non ∧ Q (.bl (decide (x = .non))) H) gIsN := d2_isN
theorem d2_notNG : D2 w (fun x y H Q => y = .non ∧ Q (.bl (!decide (x = .non))) H) gNotN := d2_notN
def tgN (i : Nat) (d : D) (ρ : DEnv) : Option DEnv := setC i (.val d) ρ
def tgNil (ds : List D) (ρ : DEnv) : Option DEnv := match ds with
  | [] => some ρ
  | _ => none
def tgCons (tf : D → DEnv → Option DEnv) (ts : List D → DEnv → Option DEnv) (ds : List D) (ρ : DEnv) : Option DEnv := match ds with
  | d :: ds => (tf d ρ).bind fun ρ => ts ds ρ
  | [] => none
theorem dg_nameG {i : Nat} : DG w (gName i) [i] (tgN i) := dg_name
theorem dgs_nilG : DGs w gNil [] tgNil := dgs_nil
theorem dgs_consG {g : TG} {gs : TGs} {a b : List Nat} {tf : D → DEnv → Option DEnv} {ts : List D → DEnv → Option DEnv} (h : DG w g a tf) (hs : DGs w gs b ts) : DGs w (gCons g gs) (a ++ b) (tgCons tf ts) := dgs_cons h hs
def itW (ds : List D) (ρ : DEnv) : M (List D) := ret ds ρ
theorem di_WG {a : Addr} {vs : List V} {ds : List D} (hk : ∀ H, SqT w.K H a vs) (hv : vDs vs = some ds) : DI w E (iTup w.K (tC (.ref a))) (itW ds) := di_W hk hv
def mYes (ρ : DEnv) : M Bool := ret true ρ
theorem dt_yesG : DT w E tYes mYes := dt_yes
def sBreak : MS := fun ρ => some (.bk ρ)
def sCont : MS := fun ρ => some (.ct ρ)
def sNever : MS := fun _ => none
theorem ds_breakG : DS w E tBreak sBreak := ds_break
theorem ds_contG : DS w E tCont sCont := ds_cont
theorem ds_neverG : DS w E tNever sNever := ds_never
/-! ### defs that let no exception out -/
def no1 {α : Type} : Option (Except (Nat × D) α) → Option (Except (Nat × D) α)
  | some (.ok a) => some (.ok a)
  | _ => none
def mFn0 (np n : Nat) (m : MS) : Fn := fun ds => no1 (mFn np n m ds)
def mFnI0 (np n : Nat) (m : MS) : FnI := fun ds => no1 (mFnI np n m ds)
theorem no1_wp {α : Type} {o : Option (Except (Nat × D) α)} {P : α → Prop} {X X' : Nat → D → Prop} (h : wpC (no1 o) P X) : wpC o P X' := by
  cases o with
  | none => exact h
  | some o => cases o with
    | ok a => exact h
    | error e => exact h.elim
theorem spP_no {m : Fn} {vs : List V} {H : Hp} {Q : VK} {E E' : XK} (h : spP w (fun ds => no1 (m ds)) vs H Q E) : spP w m vs H Q E' := by
  obtain ⟨F, ds, i, r, h⟩ := h
  exact ⟨F, ds, i, r, no1_wp h⟩
theorem spI_no {m : FnI} {vs : List V} {H : Hp} {Q : VK} {E E' : XK} (h : spI w (fun ds => no1 (m ds)) vs H Q E) : spI w m vs H Q E' := by
  obtain ⟨F, p, ws, d0, ds, e, i, o, r, h⟩ := h
  exact ⟨F, p, ws, d0, ds, e, i, o, r, no1_wp h⟩
theorem spP0_len {np n : Nat} {m : MS} {vs : List V} {H : Hp} {Q : VK} (h : spP w (mFn0 np n m) vs H Q E) : vs.length = np := spP_len (E := E) (spP_no h)
theorem spI0_len {np n : Nat} {m : MS} {vs : List V} {H : Hp} {Q : VK} (h : spI w (mFnI0 np n m) vs H Q E) : vs.length = np := spI_len (E := E) (spI_no h)
theorem fnP0 {np n : Nat} {N : List Str} {m : MS} {ts : TS} {vs : List V} {H : Hp} {Q : VK} (hN : N.length = n) (hs : DS w E0 ts m) (h : spP w (mFn0 np n m) vs H Q E) : ts { nx := fun _ H' => Q .non H', rt := Q } (L2.start N vs) H := fnP hN hs (spP_no h)
theorem fnI0 {np n : Nat} {N : List Str} {m : MS} {ts : TS} {vs : List V} {H : Hp} {Q : VK} (hN : N.length = n) (hs : DS w E0 ts m) (h : spI w (mFnI0 np n m) vs H Q E) : ts { nx := fun _ H' => Q .non H', rt := Q } (L2.start N vs) H := fnI hN hs (spI_no h)
/-! ### an attribute of one's own instance -/
def ownFld (cs : List Nat) (i : Nat) (f : Str) (ρ : DEnv) : M D := match ρ[i]? with
  | some (.own _ (.ins c ns ds)) => if c ∈ cs then (match lookF ns ds f with
      | some d => ret d ρ
      | none => none) else none
  | _ => none
theorem dv_fldO {cs : List Nat} {i : Nat} {f : Str} (hc : ∀ c ∈ cs, Cls w.K (w.C c) ∧ NoAttr w.K (w.C c) f) : DV w E (tFld w.K (tVar i) f) (ownFld cs i f) := fun z F0 B ρ σ H F Q S k => by
  unfold ownFld at k
  split at k
  case h_2 => exact k.elim
  rename_i kk c ns ds hi
  obtain ⟨hcc, k'⟩ := wpM_if k
  clear k
  split at k'
  case h_2 => exact k'.elim
  rename_i d hd
  obtain ⟨p, h1, h2, h3, h4, h5⟩ := S.own i _ _ hi
  obtain ⟨dx, fs, g1, g2, g3⟩ := h4
  subst g2
  obtain ⟨v, hv, rv⟩ := lookF_of g3 hd
  exact ⟨_, h1, p, w.C c, dx, fs, v, rfl, g1, (hc c hcc).1, (hc c hcc).2, hv, k' v H F S (.refl _) rv⟩
/-! ### an own class's in -/
def mInOwn (c : Nat) (m : Fn) (neg : Bool) (f g : DEnv → M D) (ρ : DEnv) : M D := bnd (f ρ) fun x ρ => bnd (g ρ) fun y ρ => match y with
  | .ins c' ns ds => if c' = c then (match m [.ins c' ns ds, x] with
      | some (.ok (.val (.bl b))) => ret (.bl (if neg then !b else b)) ρ
      | some (.error (c, x)) => some (.exc c x)
      | _ => none) else none
  | _ => none
def rInO (C : Addr) (sp : Sp) (E : XK) (g : Bool → Bool) : R2 := fun x y H Q => ∃ a dx fs, y = .ref a ∧ H a = some (.ins C dx fs) ∧ sp [y, x] H (fun v H' => ∃ b, v = .bl b ∧ Q (.bl (g b)) H') E
theorem dv_inOwn {c : Nat} {C : Addr} (hC : w.C c = C) {m : Fn} {neg : Bool} {gb : Bool → Bool} (hb : ∀ b, gb b = if neg then !b else b) {ta tb : TE} {f g : DEnv → M D} (h1 : DV w E ta f) (h2 : DV w E tb g) : DV w E (tOp (rInO C (spP w m) E gb) ta tb) (mInOwn c m neg f g) := fun z F0 B ρ σ H F Q S k => by
  subst hC
  unfold mInOwn at k
  rw [wpM_bnd] at k
  refine h1 z F0 B ρ σ H F _ S (k.mono fun d ρ1 y x H1 F1 S1 e1 r1 => ?_)
  rw [wpM_bnd] at y
  refine h2 z F0 B ρ1 σ H1 F1 _ S1 (y.mono fun e ρ2 y2 u H2 F2 S2 e2 r2 => ?_)
  cases e <;> first | exact y2.elim | skip
  rename_i c' ns ds
  obtain ⟨hc, y3⟩ := wpM_if (show wpM (if c' = c then _ else none) _ _ from y2)
  subst hc
  have r0 := r2
  cases r2 with
  | @ins a dx fs _ _ _ q1 q2 q3 =>
  refine ⟨a, dx, fs, rfl, S2.ext.i _ _ q1, F2, [.ins c' ns ds, d], S2.ext.i, .cons r0 (.cons (Rep.mono e2 _ _ r1) .nil), ?_⟩
  split at y3
  · rename_i b hm
    rw [hm]
    intro v H' F' e' rn
    cases (show Rep w F' v (.bl b) from rn).bl_eq
    refine ⟨b, rfl, ?_⟩
    rw [hb]
    exact y3 _ H' F' (S2.grow e') (e1.trans (e2.trans e'.f)) (.bl _)
  · rename_i c2 x2 hm
    rw [hm]
    exact XP.later S2.ext y3
  · exact y3.elim
/-! ### a written dict -/
def dmerge (ks vs : List D) : List (D × D) → Option (List D × List D)
  | [] => some (ks, vs)
  | (x, v) :: r => (dput 0 ks vs x v).bind fun p => dmerge p.1 p.2 r
def mPairs : List ((DEnv → M D) × (DEnv → M D)) → DEnv → M (List (D × D))
  | [], ρ => ret [] ρ
  | (f, g) :: r, ρ => bnd (f ρ) fun x ρ => bnd (g ρ) fun v ρ => bnd (mPairs r ρ) fun ps ρ => ret ((x, v) :: ps) ρ
inductive DPs (w : W) (E : XK) : List (TE × TE) → List ((DEnv → M D) × (DEnv → M D)) → Prop
  | nil : DPs w E [] []
  | cons {tk tv : TE} {f g : DEnv → M D} {r : List (TE × TE)} {s : List ((DEnv → M D) × (DEnv → M D))} (h1 : DV w E tk f) (h2 : DV w E tv g) (h : DPs w E r s) : DPs w E ((tk, tv) :: r) ((f, g) :: s)
inductive RepPs (w : W) (F : Hp) : List (V × V) → List (D × D) → Prop
  | nil : RepPs w F [] []
  | cons {x v : V} {d e : D} {r : List (V × V)} {s : List (D × D)} (h1 : Rep w F x d) (h2 : Rep w F v e) (h : RepPs w F r s) : RepPs w F ((x, v) :: r) ((d, e) :: s)
theorem dps_run {trs : List (TE × TE)} {fs : List ((DEnv → M D) × (DEnv → M D))} (h : DPs w E trs fs) : ∀ z F0 B ρ σ H F Q, Sim w z F0 B ρ σ H F →
    wpM (mPairs fs ρ) (fun ds ρ' => ∀ vs H' F', Sim w z F0 B ρ' σ H' F' → Same F F' → RepPs w F' vs ds → Q vs H') (XP w F0 B E) → tPairs trs σ H Q := by
  induction h with
  | nil => exact fun z F0 B ρ σ H F Q S k => k [] H F S (.refl _) .nil
  | cons h1 h2 h ih =>
    intro z F0 B ρ σ H F Q S k
    simp only [mPairs] at k
    rw [wpM_bnd] at k
    refine h1 z F0 B ρ σ H F _ S (k.mono fun x ρ1 y u H1 F1 S1 e1 r1 => ?_)
    rw [wpM_bnd] at y
    refine h2 z F0 B ρ1 σ H1 F1 _ S1 (y.mono fun v ρ2 y2 u2 H2 F2 S2 e2 r2 => ?_)
    rw [wpM_bnd] at y2
    refine ih z F0 B ρ2 σ H2 F2 _ S2 (y2.mono fun ps ρ3 y3 us H3 F3 S3 e3 r3 => ?_)
    exact y3 _ H3 F3 S3 (e1.trans (e2.trans e3)) (.cons (Rep.mono (e2.trans e3) _ _ r1) (Rep.mono e3 _ _ r2) r3)
theorem dmerge_of {F : Hp} : ∀ {us : List (V × V)} {ps : List (D × D)} {kvs : List (Key × V)} {ks vs : List D} {res : List D × List D}, RepPs w F us ps → kvs.map (fun kv => kD kv.1) = ks → RepAll w F (kvs.map fun kv => kv.2) vs → dmerge ks vs ps = some res →
    ∃ more : List (Key × V), us = more.map (fun kv => (kV kv.1, kv.2)) ∧ (mergeK kvs more).map (fun kv => kD kv.1) = res.1 ∧ RepAll w F ((mergeK kvs more).map fun kv => kv.2) res.2
  | _, _, kvs, ks, vs, res, .nil, hk, hv, h => by
    simp only [dmerge] at h
    cases h
    exact ⟨[], rfl, hk, hv⟩
  | _, _, kvs, ks, vs, res, .cons (d := d) (e := e) (s := s) r1 r2 rs, hk, hv, h => by
    simp only [dmerge] at h
    subst hk
    cases q : key1 d with
    | none => simp [dput, q] at h
    | some k =>
      obtain ⟨e1, e2⟩ := key1_of r1 q
      subst e1 e2
      simp only [dput, if_pos rfl, q, Option.map_some, Option.bind_some] at h
      obtain ⟨g1, g2⟩ := dputG_of (w := w) key1_kD k r2 kvs vs hv
      obtain ⟨more, a1, a2, a3⟩ := dmerge_of rs g1 g2 h
      exact ⟨(k, _) :: more, by rw [a1]; rfl, a2, a3⟩
def mDisp (fs : List ((DEnv → M D) × (DEnv → M D))) (ρ : DEnv) : M Cell := bnd (mPairs fs ρ) fun ps ρ => if ps.length ≤ 15 then (match dmerge [] [] ps with
    | some r => ret (.own false (.dct 0 r.1 r.2)) ρ
    | none => none) else none
theorem repPs_len {F : Hp} : ∀ {us : List (V × V)} {ps : List (D × D)}, RepPs w F us ps → us.length = ps.length
  | _, _, .nil => rfl
  | _, _, .cons _ _ h => by simp [repPs_len h]
theorem XP_un {F0 B : Hp} {D0 : Addr} {o : HO} (b : B D0 = none) {c : Nat} {x : D} (h : XP w F0 B E c x) : XP w F0 (upd B D0 o) E c x := fun dd v H' F' e hn hd r => h dd v H' F' (ext_un b e) (by
    by_cases q : dd = D0
    · subst q; exact b
    · rw [upd_ne q] at hn; exact hn) hd r
theorem wpM.monoX {α : Type} {o : M α} {P P' : α → DEnv → Prop} {X X' : Nat → D → Prop} (h : wpM o P X) (k : ∀ a ρ, P a ρ → P' a ρ) (kx : ∀ c x, X c x → X' c x) : wpM o P' X' := by
  cases o with
  | none => exact h
  | some r => cases r with
    | ok a ρ => exact k _ _ h
    | exc c x => exact kx _ _ h
theorem de_disp {trs : List (TE × TE)} {fs : List ((DEnv → M D) × (DEnv → M D))} (h : DPs w E trs fs) : DE w E (tDisp trs) (mDisp fs) := fun z F0 B ρ σ H F Q S k => by
  unfold mDisp at k
  rw [wpM_bnd] at k
  intro p hp
  have fp := S.ext.i.free hp
  have bp := S.ext.h.free hp
  have f0p := S.ext.f.free fp
  have np : NoOwn ρ σ p := fun i kk e hi q => by
    obtain ⟨p', g1, g2, g3, g4, g5⟩ := S.own i kk e hi
    rw [g1] at q
    cases q
    obtain ⟨o, ho⟩ := g4.some
    rw [hp] at ho
    cases ho
  have S1 := (S.updO (o := .dK []) bp fp np).guard upd_same fp np
  refine dps_run h z F0 _ ρ σ _ F _ S1 (k.monoX (fun ps ρ1 y us H1 F1 S2 e1 r1 => ?_) fun c x hx => XP_un bp hx)
  obtain ⟨S3, n3, h3, f3⟩ := S2.unguard bp f0p
  obtain ⟨hl, y⟩ := wpM_if y
  split at y
  case h_2 => exact y.elim
  rename_i res hm
  obtain ⟨more, a1, a2, a3⟩ := dmerge_of (kvs := []) r1 rfl .nil hm
  refine ⟨h3, more, a1, ?_, ?_⟩
  · have := repPs_len r1
    rw [a1, List.length_map] at this
    omega
  · exact y _ _ F1 (S3.updO bp f3 n3) e1 ⟨p, rfl, f3, bp, ⟨_, upd_same, a2, a3⟩, n3⟩
end
end Dm

namespace Dm
open PySem PySem.Spec PyProof.Rows L2
section
variable {w : W} {E : XK}
/-! ### a comprehension of two fors -/
theorem lc_itG {J : It} {n : Nat} {G : Hp → Prop} {Y : Nat → Hp → V → Hp → Prop} (wk : Walk J n G Y) {g : TG} {tt : TT} {te : TE} {vs : List Nat} {σ : L2.St} {Hs : Hp} {D : Addr} {Qd : Hp → Prop} (Pv : Nat → Hp → Prop) (h0 : Pv 0 Hs) (hG : ∀ i H, i ≤ n → Pv i H → G H)
    (hs : ∀ i x H H', i < n → Pv i H → Y i H x H' → g x (wipe σ vs) H' fun σ2 H2 => wipe σ2 vs = wipe σ vs ∧ tt σ2 H2 fun b H3 =>
      if b = true then te σ2 H3 fun y H4 => ∃ acc, H4 D = some (.lst acc) ∧ acc.length < sizeLine ∧ Pv (i + 1) (upd H4 D (.lst (acc ++ [y]))) else Pv (i + 1) H3) (hd : ∀ H, Pv n H → Qd H) :
    ∃ W : Nat → Nat → Hp → Prop, (∃ m, W 0 m Hs) ∧ ∀ i m H, W i m H →
      (J.stop i H ∧ Qd H) ∨ (J.go i H ∧ ∃ Nx : Hp → Prop, (∀ H', Nx H' → ∃ m', m' < m ∧ W (i + 1) m' H') ∧ ∀ x H', J.yld i H x H' → g x (wipe σ vs) H' fun σ2 H2 => wipe σ2 vs = wipe σ vs ∧ tt σ2 H2 fun b H3 =>
        if b = true then te σ2 H3 fun y H4 => ∃ acc, H4 D = some (.lst acc) ∧ acc.length < sizeLine ∧ Nx (upd H4 D (.lst (acc ++ [y]))) else Nx H3) := by
  refine ⟨fun i m H => m = n - i ∧ i ≤ n ∧ Pv i H, ⟨n, by simp, Nat.zero_le _, h0⟩, ?_⟩
  rintro i m H ⟨rfl, hi, p⟩
  have q := hG i H hi p
  by_cases hlt : i < n
  · refine .inr ⟨wk.goes i H hlt q, Pv (i + 1), fun H' p' => ⟨n - (i + 1), by omega, rfl, hlt, p'⟩, fun x H' y => hs i x H H' hlt p (wk.yields i H x H' hlt q y)⟩
  · have e : i = n := by omega
    subst e
    exact .inl ⟨wk.stops H q, hd H p⟩
/-- where a comprehension's loop stands -/
def LcAt (w : W) (z : Addr) (F0 B : Hp) (σv : L2.St) (D0 : Addr) (F1 : Hp) (ρi : DEnv) (as : List D) (H' : Hp) : Prop :=
  ∃ F' av, Sim w z F0 B ρi σv H' F' ∧ Same F1 F' ∧ H' D0 = some (.lst av) ∧ F' D0 = none ∧ RepAll w F' av as ∧ NoOwn ρi σv D0 ∧ as.length = av.length
theorem LcAt.later {z : Addr} {F0 B : Hp} {σv : L2.St} {D0 : Addr} {F1 F2 : Hp} {ρi : DEnv} {as : List D} {H' : Hp} (h : LcAt w z F0 B σv D0 F2 ρi as H') (e : Same F1 F2) : LcAt w z F0 B σv D0 F1 ρi as H' := by
  obtain ⟨F', av, a, b, c⟩ := h
  exact ⟨F', av, a, e.trans b, c⟩
theorem lc_loop {g : TG} {tt : TT} {te : TE} {sl vs : List Nat} {tf : D → DEnv → Option DEnv} {ft : DEnv → M Bool} {fe : DEnv → M D} (hg : DG w g sl tf) (ht : DT w E0 tt ft) (he : DV w E0 te fe) (hv : ∀ i ∈ sl, i ∈ vs)
    {z : Addr} {F0 B : Hp} {σ : L2.St} {D0 : Addr} {F1 : Hp} {J : It} {ds : List D} (wk : Walk J ds.length (Same F1) (YD w ds F1)) (bD : B D0 = none) (f0D : F0 D0 = none) {ρ0 : DEnv} {acc0 acc : List D} {ρe : DEnv} {Hs : Hp}
    (h0 : LcAt w z F0 B (L2.wipe σ vs) D0 F1 ρ0 acc0 Hs) (qg : lcGo vs tf ft fe ds ρ0 acc0 = some (acc, ρe)) {Qd : Hp → Prop} (hd : ∀ H, LcAt w z F0 B (L2.wipe σ vs) D0 F1 ρe acc H → Qd H) :
    ∃ W : Nat → Nat → Hp → Prop, (∃ m, W 0 m Hs) ∧ ∀ i m H, W i m H →
      (J.stop i H ∧ Qd H) ∨ (J.go i H ∧ ∃ Nx : Hp → Prop, (∀ H', Nx H' → ∃ m', m' < m ∧ W (i + 1) m' H') ∧ ∀ x H', J.yld i H x H' → g x (L2.wipe σ vs) H' fun σ2 H2 => L2.wipe σ2 vs = L2.wipe σ vs ∧ tt σ2 H2 fun b H3 =>
        if b = true then te σ2 H3 fun y H4 => ∃ acc, H4 D0 = some (.lst acc) ∧ acc.length < sizeLine ∧ Nx (upd H4 D0 (.lst (acc ++ [y]))) else Nx H3) := by
  refine lc_itG wk (fun i H' => ∃ ρi as, LcAt w z F0 B (L2.wipe σ vs) D0 F1 ρi as H' ∧ lcGo vs tf ft fe (ds.drop i) ρi as = some (acc, ρe)) ⟨ρ0, acc0, h0, qg⟩ ?_ ?_ ?_
  · rintro i H' _ ⟨ρi, as, ⟨F', av, Si, fi, _⟩, _⟩
    exact fi.trans Si.ext.i
  · rintro i x Ha Hb hlt ⟨ρi, as, ⟨F', av, Si, fi, hDa, fDa, ra, ni, la⟩, qi⟩ ⟨d, hd, hx⟩
    obtain ⟨F2, e2, rx⟩ := hx F' fi Si.ext.i
    have hDb := e2.h _ _ hDa
    have fD2 := e2.none fDa hDa
    have S2 := (Si.grow e2).wipe vs
    rw [wipe_wipe] at S2
    have n2 := ni.wipe vs
    rw [wipe_wipe] at n2
    have G2 := S2.guard hDb fD2 n2
    rw [List.drop_eq_getElem?_toList_append, hd] at qi
    simp only [Option.toList, List.singleton_append, lcGo] at qi
    refine hg z F0 _ (wipeC ρi vs) (L2.wipe σ vs) Hb F2 x d _ G2 rx ?_
    cases q1 : tf d (wipeC ρi vs) with
    | none => rw [q1] at qi; cases qi
    | some ρ1 =>
    rw [q1] at qi
    intro σ2 G3 o3
    have w3 : L2.wipe σ2 vs = L2.wipe σ vs := (only_wipe o3 hv).trans wipe_wipe
    refine ⟨w3, ht z F0 _ ρ1 σ2 Hb F2 _ G3 ?_⟩
    cases q2 : ft ρ1 with
    | none => simp only [q2] at qi; cases qi
    | some r2 =>
    cases r2 with
    | exc c x' => simp only [q2] at qi; cases qi
    | ok b ρ2 =>
    intro H3 F3 G4 f3
    cases b with
    | false =>
      simp only [q2] at qi
      rw [if_neg Bool.false_ne_true]
      obtain ⟨S5, n5, h5, f5⟩ := G4.unguard bD f0D
      have S6 := S5.wipe vs
      have n6 := n5.wipe vs
      rw [w3] at S6 n6
      exact ⟨_, as, ⟨F3, av, S6, fi.trans (e2.f.trans f3), h5, f5, RepAll.mono (e2.f.trans f3) _ _ ra, n6, la⟩, qi⟩
    | true =>
      simp only [q2] at qi
      rw [if_pos rfl]
      refine he z F0 _ ρ2 σ2 H3 F3 _ G4 ?_
      cases q3 : fe ρ2 with
      | none => simp only [q3] at qi; cases qi
      | some r3 =>
      cases r3 with
      | exc c x' => simp only [q3] at qi; cases qi
      | ok e ρ3 =>
      simp only [q3] at qi
      intro v H4 F4 G5 f4 r4
      obtain ⟨S5, n5, h5, f5⟩ := G5.unguard bD f0D
      by_cases hb : as.length < big
      · rw [if_pos hb] at qi
        have S6 := (S5.updO (o := .lst (av ++ [v])) bD f5 n5).wipe vs
        have n6 := n5.wipe vs
        rw [w3] at S6 n6
        exact ⟨av, h5, Nat.lt_of_lt_of_le (by rw [← la]; exact hb) (big_le (Nat.le_refl _)), _, as ++ [e], ⟨F4, av ++ [v], S6, fi.trans (e2.f.trans (f3.trans f4)), upd_same, f5,
          (RepAll.mono (e2.f.trans (f3.trans f4)) _ _ ra).app (.cons r4 .nil), n6, by simp [la]⟩, qi⟩
      · rw [if_neg hb] at qi; cases qi
  · rintro H' ⟨ρi, as, h, qi⟩
    rw [List.drop_eq_nil_of_le (Nat.le_refl _)] at qi
    simp only [lcGo] at qi
    cases qi
    exact hd H' h
def lc2Go (vs vs1 : List Nat) (tf : D → DEnv → Option DEnv) (tt : DEnv → M Bool) (it1 : DEnv → M (List D)) (tf1 : D → DEnv → Option DEnv) (tt1 : DEnv → M Bool) (te : DEnv → M D) : List D → DEnv → List D → Option (List D × DEnv)
  | [], ρ, acc => some (acc, ρ)
  | d :: ds, ρ, acc => match tf d (wipeC ρ vs) with
    | none => none
    | some ρ1 => match tt ρ1 with
      | some (.ok true ρ2) => match it1 ρ2 with
        | some (.ok ds1 ρ3) => match lcGo vs1 tf1 tt1 te ds1 (wipeC ρ3 vs1) acc with
          | some (acc', ρ4) => lc2Go vs vs1 tf tt it1 tf1 tt1 te ds (wipeC ρ4 vs) acc'
          | none => none
        | _ => none
      | some (.ok false ρ2) => lc2Go vs vs1 tf tt it1 tf1 tt1 te ds (wipeC ρ2 vs) acc
      | _ => none
def mLc2 (it : DEnv → M (List D)) (vs vs1 : List Nat) (tf : D → DEnv → Option DEnv) (tt : DEnv → M Bool) (it1 : DEnv → M (List D)) (tf1 : D → DEnv → Option DEnv) (tt1 : DEnv → M Bool) (te : DEnv → M D) (ρ : DEnv) : M Cell :=
  bnd (it ρ) fun ds ρ0 => match lc2Go vs vs1 tf tt it1 tf1 tt1 te ds (wipeC ρ0 vs) [] with
    | some (acc, ρ) => ret (.own false (.lst acc)) (restC ρ0 ρ vs)
    | none => none
theorem wipe_sub {σ : L2.St} {vs vs1 : List Nat} (h : ∀ i ∈ vs1, i ∈ vs) : wipe (wipe σ vs1) vs = wipe σ vs :=
  only_wipe (sl := vs1) (σ := σ) ⟨wipe_length σ vs1, fun i hi => wipe_out hi⟩ h
theorem de_lc2 {wi wi1 : TI} {g g1 : TG} {tt tt1 : TT} {te : TE} {sl sl1 vs vs1 : List Nat} {it it1 : DEnv → M (List D)} {tf tf1 : D → DEnv → Option DEnv} {ft ft1 : DEnv → M Bool} {fe : DEnv → M D}
    (hi : DI w E wi it) (hg : DG w g sl tf) (ht : DT w E0 tt ft) (hi1 : DI w E0 wi1 it1) (hg1 : DG w g1 sl1 tf1) (ht1 : DT w E0 tt1 ft1) (he : DV w E0 te fe) (hv : ∀ i ∈ sl, i ∈ vs) (hv1 : ∀ i ∈ sl1, i ∈ vs1) (hvv : ∀ i ∈ vs1, i ∈ vs) :
    DE w E (tLc2 wi g tt wi1 g1 tt1 te vs vs1) (mLc2 it vs vs1 tf ft it1 tf1 ft1 fe) := fun z F0 B ρ σ H F Q S k => by
  unfold mLc2 at k
  rw [wpM_bnd] at k
  refine hi z F0 B ρ σ H F _ S (k.mono fun ds ρ0 y J H1 F1 S1 e1 wk => ?_)
  cases qg : lc2Go vs vs1 tf ft it1 tf1 ft1 fe ds (wipeC ρ0 vs) [] with
  | none => rw [qg] at y; exact y.elim
  | some res =>
  rw [qg] at y
  obtain ⟨acc, ρe⟩ := res
  intro D0 hD
  have fD := S1.ext.i.free hD
  have bD := S1.ext.h.free hD
  have f0D := S1.ext.f.free fD
  have nD : NoOwn (wipeC ρ0 vs) (L2.wipe σ vs) D0 := fun i kk e hi q => by
    obtain ⟨p, g1, g2, g3, g4, g5⟩ := (S1.wipe vs).own i kk e hi
    rw [g1] at q
    cases q
    obtain ⟨o, ho⟩ := g4.some
    rw [hD] at ho
    cases ho
  let Pv : Nat → Hp → Prop := fun i H' => ∃ ρi as, LcAt w z F0 B (L2.wipe σ vs) D0 F1 ρi as H' ∧ lc2Go vs vs1 tf ft it1 tf1 ft1 fe (ds.drop i) ρi as = some (acc, ρe)
  refine ⟨fun i m H => m = ds.length - i ∧ i ≤ ds.length ∧ Pv i H, ⟨ds.length, by simp, Nat.zero_le _, _, [], ⟨F1, [], (S1.wipe vs).updO bD fD nD, .refl _, upd_same, fD, .nil, nD, rfl⟩, qg⟩, ?_⟩
  rintro i m Ha ⟨rfl, hle, ρi, as, ⟨F', av, Si, fi, hDa, fDa, ra, ni, la⟩, qi⟩
  by_cases hlt : i < ds.length
  · refine .inr ⟨wk.goes i Ha hlt (fi.trans Si.ext.i), Pv (i + 1), fun H' p' => ⟨ds.length - (i + 1), by omega, rfl, hlt, p'⟩, fun x Hb yl => ?_⟩
    obtain ⟨d, hd, hx⟩ := wk.yields i Ha x Hb hlt (fi.trans Si.ext.i) yl
    obtain ⟨F2, e2, rx⟩ := hx F' fi Si.ext.i
    have hDb := e2.h _ _ hDa
    have fD2 := e2.none fDa hDa
    have S2 := (Si.grow e2).wipe vs
    rw [wipe_wipe] at S2
    have n2 := ni.wipe vs
    rw [wipe_wipe] at n2
    have G2 := S2.guard hDb fD2 n2
    rw [List.drop_eq_getElem?_toList_append, hd] at qi
    simp only [Option.toList, List.singleton_append, lc2Go] at qi
    refine hg z F0 _ (wipeC ρi vs) (L2.wipe σ vs) Hb F2 x d _ G2 rx ?_
    cases q1 : tf d (wipeC ρi vs) with
    | none => rw [q1] at qi; cases qi
    | some ρ1 =>
    rw [q1] at qi
    intro σ2 G3 o3
    have w3 : L2.wipe σ2 vs = L2.wipe σ vs := (only_wipe o3 hv).trans wipe_wipe
    refine ⟨w3, ht z F0 _ ρ1 σ2 Hb F2 _ G3 ?_⟩
    cases q2 : ft ρ1 with
    | none => simp only [q2] at qi; cases qi
    | some r2 =>
    cases r2 with
    | exc c x' => simp only [q2] at qi; cases qi
    | ok b ρ2 =>
    intro H3 F3 G4 f3
    cases b with
    | false =>
      simp only [q2] at qi
      rw [if_neg Bool.false_ne_true]
      obtain ⟨S5, n5, h5, f5⟩ := G4.unguard bD f0D
      have S6 := S5.wipe vs
      have n6 := n5.wipe vs
      rw [w3] at S6 n6
      exact ⟨_, as, ⟨F3, av, S6, fi.trans (e2.f.trans f3), h5, f5, RepAll.mono (e2.f.trans f3) _ _ ra, n6, la⟩, qi⟩
    | true =>
      simp only [q2] at qi
      rw [if_pos rfl]
      refine hi1 z F0 _ ρ2 σ2 H3 F3 _ G4 ?_
      cases q3 : it1 ρ2 with
      | none => simp only [q3] at qi; cases qi
      | some r3 =>
      cases r3 with
      | exc c x' => simp only [q3] at qi; cases qi
      | ok ds1 ρ3 =>
      simp only [q3] at qi
      intro J1 H4 F4 G5 f4 wk1
      obtain ⟨S5, n5, h5, f5⟩ := G5.unguard bD f0D
      cases q4 : lcGo vs1 tf1 ft1 fe ds1 (wipeC ρ3 vs1) as with
      | none => rw [q4] at qi; cases qi
      | some r4 =>
      obtain ⟨acc', ρ4⟩ := r4
      rw [q4] at qi
      refine lc_loop hg1 ht1 he hv1 wk1 bD f0D (ρ0 := wipeC ρ3 vs1) (acc0 := as) (Hs := H4) ⟨F4, av, S5.wipe vs1, .refl _, h5, f5, RepAll.mono (e2.f.trans (f3.trans f4)) _ _ ra, n5.wipe vs1, la⟩ q4 fun H5 h => ?_
      obtain ⟨F6, av6, S6, f6, hD6, fD6, ra6, n6, la6⟩ := h
      have S7 := S6.wipe vs
      have n7 := n6.wipe vs
      rw [wipe_sub hvv, w3] at S7 n7
      exact ⟨_, acc', ⟨F6, av6, S7, fi.trans (e2.f.trans (f3.trans (f4.trans f6))), hD6, fD6, ra6, n7, la6⟩, qi⟩
  · have e : i = ds.length := by omega
    subst e
    refine .inl ⟨wk.stops Ha (fi.trans Si.ext.i), ?_⟩
    rw [List.drop_eq_nil_of_le (Nat.le_refl _)] at qi
    simp only [lc2Go] at qi
    cases qi
    have S6 := S1.rest fi Si
    refine y _ Ha F' S6 (e1.trans fi) ⟨D0, rfl, fDa, bD, ⟨av, hDa, ra⟩, fun j kk e hj q => ?_⟩
    rcases restC_at hj with ⟨a, b⟩ | ⟨a, b⟩
    · exact keepV_own a
    · rw [← wipe_out (vs := vs) b] at q
      exact ni j kk e a q
end
end Dm

namespace Dm
open PySem PySem.Spec PyProof.Rows L2
section
variable {w : W} {E : XK}
/-! ### {k: v for ..} -/
def dcGo (vs : List Nat) (tf : D → DEnv → Option DEnv) (tt : DEnv → M Bool) (tk te : DEnv → M D) : List D → DEnv → List D → List D → Option ((List D × List D) × DEnv)
  | [], ρ, ks, us => some ((ks, us), ρ)
  | d :: ds, ρ, ks, us => match tf d (wipeC ρ vs) with
    | none => none
    | some ρ1 => match tt ρ1 with
      | some (.ok true ρ2) => match tk ρ2 with
        | some (.ok x ρ3) => match te ρ3 with
          | some (.ok e ρ4) => if ks.length < big then (match dput 0 ks us x e with
              | some p => dcGo vs tf tt tk te ds (wipeC ρ4 vs) p.1 p.2
              | none => none) else none
          | _ => none
        | _ => none
      | some (.ok false ρ2) => dcGo vs tf tt tk te ds (wipeC ρ2 vs) ks us
      | _ => none
def mDc (it : DEnv → M (List D)) (vs : List Nat) (tf : D → DEnv → Option DEnv) (tt : DEnv → M Bool) (tk te : DEnv → M D) (ρ : DEnv) : M Cell :=
  bnd (it ρ) fun ds ρ0 => match dcGo vs tf tt tk te ds (wipeC ρ0 vs) [] [] with
    | some (p, ρ) => ret (.own false (.dct 0 p.1 p.2)) (restC ρ0 ρ vs)
    | none => none
theorem de_dc {wi : TI} {g : TG} {tt : TT} {tk te : TE} {sl vs : List Nat} {it : DEnv → M (List D)} {tf : D → DEnv → Option DEnv} {ft : DEnv → M Bool} {fk fe : DEnv → M D}
    (hi : DI w E wi it) (hg : DG w g sl tf) (ht : DT w E0 tt ft) (hk : DV w E0 tk fk) (he : DV w E0 te fe) (hv : ∀ i ∈ sl, i ∈ vs) : DE w E (tDc wi g tt tk te vs) (mDc it vs tf ft fk fe) := fun z F0 B ρ σ H F Q S k => by
  unfold mDc at k
  rw [wpM_bnd] at k
  refine hi z F0 B ρ σ H F _ S (k.mono fun ds ρ0 y J H1 F1 S1 e1 wk => ?_)
  cases qg : dcGo vs tf ft fk fe ds (wipeC ρ0 vs) [] [] with
  | none => rw [qg] at y; exact y.elim
  | some res =>
  rw [qg] at y
  obtain ⟨acc, ρe⟩ := res
  intro D0 hD
  have fD := S1.ext.i.free hD
  have bD := S1.ext.h.free hD
  have f0D := S1.ext.f.free fD
  have nD : NoOwn (wipeC ρ0 vs) (L2.wipe σ vs) D0 := fun i kk e hi q => by
    obtain ⟨p, g1, g2, g3, g4, g5⟩ := (S1.wipe vs).own i kk e hi
    rw [g1] at q
    cases q
    obtain ⟨o, ho⟩ := g4.some
    rw [hD] at ho
    cases ho
  let Pv : Nat → Hp → Prop := fun i H' => ∃ ρi ks us F' kvs, Sim w z F0 B ρi (L2.wipe σ vs) H' F' ∧ Same F1 F' ∧ H' D0 = some (.dK kvs) ∧ F' D0 = none ∧ kvs.map (fun kv => kD kv.1) = ks ∧ RepAll w F' (kvs.map fun kv => kv.2) us ∧ NoOwn ρi (L2.wipe σ vs) D0 ∧ dcGo vs tf ft fk fe (ds.drop i) ρi ks us = some (acc, ρe)
  refine ⟨fun i m H => m = ds.length - i ∧ i ≤ ds.length ∧ Pv i H, ⟨ds.length, by simp, Nat.zero_le _, _, [], [], F1, [], (S1.wipe vs).updO bD fD nD, .refl _, upd_same, fD, rfl, .nil, nD, qg⟩, ?_⟩
  rintro i m Ha ⟨rfl, hle, ρi, ks, us, F', kvs, Si, fi, hDa, fDa, hk2, ra, ni, qi⟩
  by_cases hlt : i < ds.length
  · refine .inr ⟨wk.goes i Ha hlt (fi.trans Si.ext.i), Pv (i + 1), fun H' p' => ⟨ds.length - (i + 1), by omega, rfl, hlt, p'⟩, fun x Hb yl => ?_⟩
    obtain ⟨d, hd, hx⟩ := wk.yields i Ha x Hb hlt (fi.trans Si.ext.i) yl
    obtain ⟨F2, e2, rx⟩ := hx F' fi Si.ext.i
    have hDb := e2.h _ _ hDa
    have fD2 := e2.none fDa hDa
    have S2 := (Si.grow e2).wipe vs
    rw [wipe_wipe] at S2
    have n2 := ni.wipe vs
    rw [wipe_wipe] at n2
    have G2 := S2.guard hDb fD2 n2
    rw [List.drop_eq_getElem?_toList_append, hd] at qi
    simp only [Option.toList, List.singleton_append, dcGo] at qi
    refine hg z F0 _ (wipeC ρi vs) (L2.wipe σ vs) Hb F2 x d _ G2 rx ?_
    cases q1 : tf d (wipeC ρi vs) with
    | none => rw [q1] at qi; cases qi
    | some ρ1 =>
    rw [q1] at qi
    intro σ2 G3 o3
    have w3 : L2.wipe σ2 vs = L2.wipe σ vs := (only_wipe o3 hv).trans wipe_wipe
    refine ⟨w3, ht z F0 _ ρ1 σ2 Hb F2 _ G3 ?_⟩
    cases q2 : ft ρ1 with
    | none => simp only [q2] at qi; cases qi
    | some r2 =>
    cases r2 with
    | exc c x' => simp only [q2] at qi; cases qi
    | ok b ρ2 =>
    intro H3 F3 G4 f3
    cases b with
    | false =>
      simp only [q2] at qi
      rw [if_neg Bool.false_ne_true]
      obtain ⟨S5, n5, h5, f5⟩ := G4.unguard bD f0D
      have S6 := S5.wipe vs
      have n6 := n5.wipe vs
      rw [w3] at S6 n6
      exact ⟨_, ks, us, F3, kvs, S6, fi.trans (e2.f.trans f3), h5, f5, hk2, RepAll.mono (e2.f.trans f3) _ _ ra, n6, qi⟩
    | true =>
      simp only [q2] at qi
      rw [if_pos rfl]
      refine hk z F0 _ ρ2 σ2 H3 F3 _ G4 ?_
      cases q3 : fk ρ2 with
      | none => simp only [q3] at qi; cases qi
      | some r3 =>
      cases r3 with
      | exc c x' => simp only [q3] at qi; cases qi
      | ok xk ρ3 =>
      simp only [q3] at qi
      intro vk H4 F4 G5 f4 rk
      refine he z F0 _ ρ3 σ2 H4 F4 _ G5 ?_
      cases q4 : fe ρ3 with
      | none => simp only [q4] at qi; cases qi
      | some r4 =>
      cases r4 with
      | exc c x' => simp only [q4] at qi; cases qi
      | ok e ρ4 =>
      simp only [q4] at qi
      intro v H5 F5 G6 f5' r5
      obtain ⟨S5, n5, h5, f5⟩ := G6.unguard bD f0D
      by_cases hb : ks.length < big
      · rw [if_pos hb] at qi
        subst hk2
        cases q5 : key1 xk with
        | none => simp [dput, q5] at qi
        | some kx =>
          obtain ⟨a1, a2⟩ := key1_of rk q5
          subst a1 a2
          simp only [dput, if_pos rfl, q5, Option.map_some] at qi
          have fa := e2.f.trans (f3.trans (f4.trans f5'))
          obtain ⟨g1, g2⟩ := dputG_of (w := w) key1_kD kx r5 kvs us (RepAll.mono fa _ _ ra)
          have S6 := (S5.updO (o := .dK (putK kvs kx v)) bD f5 n5).wipe vs
          have n6 := n5.wipe vs
          rw [w3] at S6 n6
          refine ⟨kvs, kx, rfl, h5, ?_, _, _, _, F5, _, S6, fi.trans fa, upd_same, f5, g1, g2, n6, qi⟩
          rw [List.length_map] at hb
          exact Nat.lt_of_lt_of_le hb (big_le (Nat.le_refl _))
      · rw [if_neg hb] at qi; cases qi
  · have e : i = ds.length := by omega
    subst e
    refine .inl ⟨wk.stops Ha (fi.trans Si.ext.i), ?_⟩
    rw [List.drop_eq_nil_of_le (Nat.le_refl _)] at qi
    simp only [dcGo] at qi
    cases qi
    have S6 := S1.rest fi Si
    refine y _ Ha F' S6 (e1.trans fi) ⟨D0, rfl, fDa, bD, ⟨kvs, hDa, hk2, ra⟩, fun j kk e hj q => ?_⟩
    rcases restC_at hj with ⟨a, b⟩ | ⟨a, b⟩
    · exact keepV_own a
    · rw [← wipe_out (vs := vs) b] at q
      exact ni j kk e a q
/-! ### targets that store into one's own -/
def DGH (w : W) (E : XK) (g : TG) (tf : D → DEnv → Option DEnv) : Prop := ∀ z F0 B ρ σ H F v d Q, Sim w z F0 B ρ σ H F → Rep w F v d → wpO (tf d ρ) (fun ρ' => ∀ σ' H' F', Sim w z F0 B ρ' σ' H' F' → Same F F' → Q σ' H') → g v σ H Q
def DGHs (w : W) (E : XK) (g : TGs) (tf : List D → DEnv → Option DEnv) : Prop := ∀ z F0 B ρ σ H F vs ds Q, Sim w z F0 B ρ σ H F → RepAll w F vs ds → wpO (tf ds ρ) (fun ρ' => ∀ σ' H' F', Sim w z F0 B ρ' σ' H' F' → Same F F' → Q σ' H') → g vs σ H Q
theorem dgh_of {g : TG} {sl : List Nat} {tf : D → DEnv → Option DEnv} (h : DG w g sl tf) : DGH w E g tf := fun z F0 B ρ σ H F v d Q S r k =>
  h z F0 B ρ σ H F v d Q S r (k.mono fun ρ' y σ' S' _ => y σ' H F S' (.refl _))
/-- x[i] as a target, the place without an error -/
def tgPut (i : Nat) (fx : DEnv → M D) (d : D) (ρ : DEnv) : Option DEnv := if isOwnA ρ i = true then (match fx ρ with
    | some (.ok x ρ1) => putAt i x d ρ1
    | _ => none) else none
theorem dgh_put {i : Nat} {tx : TE} {fx : DEnv → M D} (hx : DV w E tx fx) : DGH w E (gSub (tVar i) tx rSetA) (tgPut i fx) := fun z F0 B ρ σ H F v d Q S r k => by
  unfold tgPut at k
  obtain ⟨ho, k⟩ := wpO_ifo k
  obtain ⟨kk, d', hi⟩ := isOwnA_of ho
  obtain ⟨p, h1, _⟩ := S.own i _ _ hi
  refine ⟨_, h1, ?_⟩
  refine hx z F0 B ρ σ H F _ S ?_
  cases q : fx ρ with
  | none => rw [q] at k; exact k.elim
  | some o =>
  rw [q] at k
  cases o with
  | exc c x => exact k.elim
  | ok x ρ1 =>
  intro v2 H2 F2 S2 e2 r2
  cases q2 : putAt i x d ρ1 with
  | none => simp only [q2] at k; exact k.elim
  | some ρ3 =>
    simp only [q2] at k
    exact putAt_of S2 h1 r2 (Rep.mono e2 _ _ r) q2 fun o S3 => k σ _ F2 S3 e2
theorem dghs_nil : DGHs w E gNil tgNil := fun z F0 B ρ σ H F vs ds Q S r k => by
  cases r with
  | nil => exact ⟨rfl, k σ H F S (.refl _)⟩
  | cons _ _ => exact k.elim
theorem dghs_cons {g : TG} {gs : TGs} {tf : D → DEnv → Option DEnv} {ts : List D → DEnv → Option DEnv} (h : DGH w E g tf) (hs : DGHs w E gs ts) : DGHs w E (gCons g gs) (tgCons tf ts) := fun z F0 B ρ σ H F vs ds Q S r k => by
  cases r with
  | nil => exact k.elim
  | cons r rs =>
    rename_i d ds
    refine ⟨_, _, rfl, h z F0 B ρ σ H F _ _ _ S r ?_⟩
    unfold tgCons at k
    cases q : tf d ρ with
    | none => simp only [q] at k; exact k.elim
    | some ρ1 =>
      simp only [q] at k
      exact fun σ1 H1 F1 S1 e1 => hs z F0 B ρ1 σ1 H1 F1 _ _ _ S1 (RepAll.mono e1 _ _ rs) (wpO.mono k fun ρ2 k2 σ2 H2 F2 S2 e2 => k2 σ2 H2 F2 S2 (e1.trans e2))
theorem dgh_un {n : Nat} {gs : TGs} {ts : List D → DEnv → Option DEnv} (h : DGHs w E gs ts) : DGH w E (gUn w.K n gs) (unD n ts) := fun z F0 B ρ σ H F v d Q S r k => by
  cases d <;> first | exact k.elim | skip
  · obtain ⟨hl, k⟩ := wpO_ifo k
    cases r with
    | tup h1 h2 => exact .inl ⟨_, _, rfl, sqT (S.ext.i _ _ h1), by rw [h2.len]; exact hl, h z F0 B ρ σ H F _ _ _ S h2 k⟩
  · obtain ⟨hl, k⟩ := wpO_ifo k
    cases r with
    | lst h1 h2 => exact .inr ⟨_, _, rfl, sqL (S.ext.i _ _ h1), by rw [h2.len]; exact hl, h z F0 B ρ σ H F _ _ _ S h2 k⟩
theorem ds_unH {te : TE} {g : TG} {tf : D → DEnv → Option DEnv} {f : DEnv → M D} (h : DV w E te f) (hg : DGH w E g tf) : DS w E (tAsg te g) (sUn tf f) := fun z F0 B ρ σ H F T S k => by
  refine h z F0 B ρ σ H F _ S ((wpS_bind k).mono fun d ρ1 y v H1 F1 S1 e1 r1 => ?_)
  refine hg z F0 B ρ1 σ H1 F1 v d _ S1 r1 ?_
  cases q : tf d ρ1 with
  | none => rw [q] at y; exact y.elim
  | some ρ2 =>
    rw [q] at y
    exact fun σ2 H2 F2 S2 e2 => y σ2 H2 F2 S2 (e1.trans e2)
/-! ### list.index of a flat item -/
def idxF (y : D) : List D → Option Nat
  | [] => none
  | d :: ds => if eqF d y = true then some 0 else (idxF y ds).map (· + 1)
theorem idxF_of {F G : Hp} {u : V} {y : D} (ry : Rep w G u y) (fy : isF y = true) : ∀ {vs : List V} {ds : List D} {j : Nat}, RepAll w F vs ds → ds.all isF = true → idxF y ds = some j → ∃ z, vs[j]? = some z ∧ eqV z u = true ∧ ∀ (m : Nat) (z' : V), m < j → vs[m]? = some z' → eqV z' u = false
  | _, _, _, .nil, _, h => by simp [idxF] at h
  | _, _, j, .cons (d := d) (ds := ds) r rs, hf, h => by
    rw [List.all_cons, Bool.and_eq_true] at hf
    simp only [idxF] at h
    by_cases q : eqF d y = true
    · rw [if_pos q] at h
      cases h
      exact ⟨_, rfl, by rw [eqF_of r ry hf.1 fy]; exact q, fun m z' hm => by omega⟩
    · rw [if_neg q] at h
      cases q2 : idxF y ds with
      | none => rw [q2] at h; cases h
      | some i =>
        rw [q2] at h
        cases h
        obtain ⟨z, h1, h2, h3⟩ := idxF_of ry fy rs hf.2 q2
        refine ⟨z, by rw [List.getElem?_cons_succ]; exact h1, h2, fun m z' hm hz => ?_⟩
        cases m with
        | zero =>
          cases hz
          rw [eqF_of r ry hf.1 fy]
          simpa using q
        | succ m =>
          rw [List.getElem?_cons_succ] at hz
          have hm' : m + 1 < i + 1 := hm
          exact h3 m z' (by omega) hz
def gIdx : List D → List D → Option Cell
  | ds, [y] => if isF y = true ∧ ds.all isF = true then (idxF y ds).bind fun j => cI (j : Nat) else none
  | _, _ => none
def mBML (h : List D → List D → Option Cell) (f : DEnv → M D) (g : DEnv → M (List D)) (ρ : DEnv) : M Cell := bnd (f ρ) fun d ρ => match d with
  | .lst ds => bnd (g ρ) fun es ρ => up (h ds es) ρ
  | _ => none
theorem mt_idxK {X : Cx} {K : PySem.W.Frag} (hK : X.K = K) : MtR X "list.index" (rIndex K) := by subst hK; exact mt_index
theorem de_idx {to : TE} {f : DEnv → M D} {g : DEnv → M (List D)} {ta : TA} (h : DV w E to f) (hg : DA w E ta g) : DE w E (tBM w.K "list" (rIndex w.K) to ta) (mBML gIdx f g) := fun z F0 B ρ σ H F Q S k => by
  unfold mBML at k
  rw [wpM_bnd] at k
  refine h z F0 B ρ σ H F _ S (k.mono fun d ρ1 y x H1 F1 S1 e1 r1 => ?_)
  cases d <;> first | exact y.elim | skip
  rename_i ds
  have y' : wpM (bnd (g ρ1) fun es ρ => up (gIdx ds es) ρ) _ _ := y
  rw [wpM_bnd] at y'
  cases r1 with
  | lst h1 h2 =>
  refine ⟨.inl ⟨rfl, _, sqL (S1.ext.i _ _ h1)⟩, ?_⟩
  refine hg z F0 B ρ1 σ H1 F1 _ S1 (y'.mono fun es ρ2 y2 vs H2 F2 S2 e2 r2 => ?_)
  rw [wpM_up] at y2
  unfold gIdx at y2
  split at y2
  case h_2 => exact y2.elim
  rename_i ds' yy
  obtain ⟨hf, y2⟩ := wpO_ifo y2
  cases q : idxF yy ds with
  | none => rw [q] at y2; exact y2.elim
  | some j =>
    rw [q] at y2
    obtain ⟨u, rfl, ru⟩ := rep1 r2
    obtain ⟨zz, g1, g2, g3⟩ := idxF_of ru hf.1 h2 hf.2 q
    exact ⟨_, _, u, j, zz, rfl, rfl, sqL (S2.ext.i _ _ (e2 _ _ h1)), by rw [isF_of ru]; exact hf.1, by rw [allF_of h2]; exact hf.2, g1, g2, g3, y2 _ H2 F2 S2 (e1.trans e2) (.int _)⟩
/-! ### sorted, of texts and of ints -/
def insI (x : Int) : List Int → List Int
  | [] => [x]
  | y :: ys => if x ≤ y then x :: y :: ys else y :: insI x ys
def sortI : List Int → List Int
  | [] => []
  | x :: xs => insI x (sortI xs)
theorem insI_perm (x : Int) : ∀ ys, (insI x ys).Perm (x :: ys)
  | [] => .refl _
  | y :: ys => by
    unfold insI
    split
    · exact .refl _
    · exact ((insI_perm x ys).cons y).trans (.swap x y ys)
theorem sortI_perm : ∀ xs, (sortI xs).Perm xs
  | [] => .refl _
  | x :: xs => (insI_perm x (sortI xs)).trans ((sortI_perm xs).cons x)
theorem insI_pw (x : Int) : ∀ ys : List Int, ys.Pairwise (· ≤ ·) → (insI x ys).Pairwise (· ≤ ·)
  | [], _ => by simp [insI]
  | y :: ys, h => by
    unfold insI
    rw [List.pairwise_cons] at h
    split
    · rename_i q
      rw [List.pairwise_cons, List.pairwise_cons]
      exact ⟨fun z hz => by
        rcases List.mem_cons.mp hz with rfl | hz
        · exact q
        · exact Int.le_trans q (h.1 z hz), h⟩
    · rename_i q
      rw [List.pairwise_cons]
      refine ⟨fun z hz => ?_, insI_pw x ys h.2⟩
      rcases List.mem_cons.mp ((insI_perm x ys).mem_iff.mp hz) with rfl | hz
      · omega
      · exact h.1 z hz
theorem sortI_pw : ∀ xs : List Int, (sortI xs).Pairwise (· ≤ ·)
  | [] => by simp [sortI]
  | x :: xs => insI_pw x _ (sortI_pw xs)
def leS (a b : Str) : Prop := a.cps.toList ≤ b.cps.toList
instance (a b : Str) : Decidable (leS a b) := inferInstanceAs (Decidable (a.cps.toList ≤ b.cps.toList))
theorem leS_total (a b : Str) (h : ¬ leS a b) : leS b a := (List.le_total a.cps.toList b.cps.toList).resolve_left h
theorem leS_trans {a b c : Str} (h : leS a b) (k : leS b c) : leS a c := List.le_trans h k
theorem str_eqC {s z : Str} (h : s.cps.toList = z.cps.toList) : s = z := by
  cases s; cases z
  simp only [Str.mk.injEq]
  exact Array.toList_inj.mp h
def insS (x : Str) : List Str → List Str
  | [] => [x]
  | y :: ys => if leS x y then x :: y :: ys else y :: insS x ys
def sortS : List Str → List Str
  | [] => []
  | x :: xs => insS x (sortS xs)
theorem insS_perm (x : Str) : ∀ ys, (insS x ys).Perm (x :: ys)
  | [] => .refl _
  | y :: ys => by
    unfold insS
    split
    · exact .refl _
    · exact ((insS_perm x ys).cons y).trans (.swap x y ys)
theorem sortS_perm : ∀ xs, (sortS xs).Perm xs
  | [] => .refl _
  | x :: xs => (insS_perm x (sortS xs)).trans ((sortS_perm xs).cons x)
theorem insS_pw (x : Str) : ∀ ys : List Str, ys.Pairwise leS → (insS x ys).Pairwise leS
  | [], _ => by simp [insS]
  | y :: ys, h => by
    unfold insS
    rw [List.pairwise_cons] at h
    split
    · rename_i q
      rw [List.pairwise_cons, List.pairwise_cons]
      exact ⟨fun z hz => by
        rcases List.mem_cons.mp hz with rfl | hz
        · exact q
        · exact leS_trans q (h.1 z hz), h⟩
    · rename_i q
      rw [List.pairwise_cons]
      refine ⟨fun z hz => ?_, insS_pw x ys h.2⟩
      rcases List.mem_cons.mp ((insS_perm x ys).mem_iff.mp hz) with rfl | hz
      · exact leS_total _ _ q
      · exact h.1 z hz
theorem sortS_pw : ∀ xs : List Str, (sortS xs).Pairwise leS
  | [] => by simp [sortS]
  | x :: xs => insS_pw x _ (sortS_pw xs)
theorem rising_pw : ∀ (xs : List Str) (p : Str), risingS p xs = true → (p :: xs).Pairwise leS
  | [], p, _ => by simp
  | x :: r, p, h => by
    unfold risingS at h
    rw [Bool.and_eq_true, ltCps_eq] at h
    have h1 : leS p x := by
      show ¬ x.cps.toList < p.cps.toList
      simpa using h.1
    have ih := rising_pw r x h.2
    refine List.Pairwise.cons (fun y hy => ?_) ih
    rcases List.mem_cons.mp hy with rfl | hy
    · exact h1
    · exact leS_trans h1 (List.rel_of_pairwise_cons ih hy)
theorem sorted_pwS {xs : List Str} (h : sortedS xs = true) : xs.Pairwise leS := by
  cases xs with
  | nil => simp
  | cons x r => exact rising_pw r x h
def gSorted : List D → Option Cell
  | [.lst xs] => if xs.length < 64 then (match intsD xs, strsD xs with
    | some ns, _ => some (.own false (.lst ((sortI ns).map .int)))
    | none, some ss => some (.own false (.lst ((sortS ss).map .str)))
    | none, none => none) else none
  | _ => none
def rSortA (K : PySem.W.Frag) : List V → Hp → VK → Prop := fun xs H Q => rSorted K xs H Q ∨ rSortedS K xs H Q
theorem call_sortA {X : Cx} {K : PySem.W.Frag} (hK : X.K = K) : CallR X (.builtin "sorted") (rSortA K) := by subst hK; exact cr_sorted.or cr_sortedS
theorem db_sorted : DB w (rSortA w.K) gSorted := fun F H vs ds Q i r h => by
  unfold gSorted at h
  split at h
  · rename_i xs
    obtain ⟨v, rfl, rr⟩ := rep1 r
    clear r
    obtain ⟨hl, h⟩ := wpO_ifo h
    cases rr with
    | lst h1 h2 =>
      have l2 := h2.len
      split at h
      · rename_i _ ns q
        have hv := ints_of h2 q
        rw [hv] at h1 l2
        rw [List.length_map] at l2
        refine .inl ⟨_, ns, rfl, sqL (i _ _ h1), by omega, fun ns' p hp hs hn => ?_⟩
        have e : ns' = sortI ns := List.Perm.eq_of_pairwise (fun a b _ _ h1 h2 => Int.le_antisymm h1 h2) hs (sortI_pw ns) (hp.trans (sortI_perm ns).symm)
        subst e
        exact Res.newLst h i hn (rep_ints _)
      · rename_i ss _ q
        have hv := strs_of h2 q
        rw [hv] at h1 l2
        rw [List.length_map] at l2
        refine .inr ⟨_, ss, rfl, sqL (i _ _ h1), by omega, fun ns' p hp hs hn => ?_⟩
        have e : ns' = sortS ss := List.Perm.eq_of_pairwise (fun a b _ _ h1 h2 => str_eqC (List.le_antisymm h1 h2)) (sorted_pwS hs) (sortS_pw ss) (hp.trans (sortS_perm ss).symm)
        subst e
        exact Res.newLst h i hn (rep_strs _)
      · exact h.elim
  · exact h.elim
end
end Dm

namespace Dm
open PySem PySem.Spec PyProof.Rows L2
section
variable {w : W} {E : XK}
/-! ### xs.extend(ys) -/
def putExt (i : Nat) (es : List D) (ρ : DEnv) : Option DEnv := match ρ[i]? with
  | some (.own k (.lst ds)) => if ds.length + es.length ≤ big then some (ρ.set i (.own k (.lst (ds ++ es)))) else none
  | _ => none
def sExt (i : Nat) (f : DEnv → M D) : MS := fun ρ => if isOwnL ρ i = true then bindS (f ρ) fun d ρ => match d with
  | .lst es => (putExt i es ρ).map .nx
  | _ => none else none
theorem ds_ext {i : Nat} {te : TE} {f : DEnv → M D} (h : DV w E te f) : DS w E (tDrop (tBM w.K "list" rExtend (tVar i) (tCons te tNil))) (sExt i f) := fun z F0 B ρ σ H F T S k => by
  obtain ⟨hl, k⟩ := wpS_if k
  unfold isOwnL at hl
  split at hl
  case h_2 => cases hl
  rename_i kk ds hi
  obtain ⟨p, h1, h2, h3, h4, h5⟩ := S.own i _ _ hi
  obtain ⟨vs, hv, _⟩ := h4
  refine ⟨_, h1, .inl ⟨rfl, _, sqL hv⟩, ?_⟩
  refine h z F0 B ρ σ H F _ S ((wpS_bind k).mono fun d ρ1 y v H1 F1 S1 e1 r1 => ?_)
  cases d <;> first | exact y.elim | skip
  rename_i es
  have y' : wpS ((putExt i es ρ1).map .nx) _ _ _ _ _ := y
  clear y
  unfold putExt at y'
  split at y'
  case h_2 => exact y'.elim
  rename_i k1 gs hi1
  split at y'
  case isFalse => exact y'.elim
  rename_i hb
  obtain ⟨p1, g1, g2, g3, g4, g5⟩ := S1.own i _ _ hi1
  rw [h1] at g1
  cases g1
  obtain ⟨us, hu, ru⟩ := g4
  cases r1 with
  | lst q1 q2 =>
  refine ⟨p, _, us, _, rfl, rfl, hu, S1.ext.i _ _ q1, big_le (by rw [ru.len, q2.len]; exact hb), ?_⟩
  exact y' σ _ F1 (S1.updOwn hi1 h1 ⟨_, upd_same, ru.app q2⟩) e1
/-! ### isinstance of an own class -/
structure IsC (K : PySem.W.Frag) (C : Addr) : Prop where
  cl : Cls K C
  ic : PySem.W.findIn K (.ref C) "__class__" = some (some (.builtin "object.__class__"))
  sp : PySem.W.specialIn K (.builtin "object.__class__") "__get__" = some (some (.builtin "getset_descriptor.__get__"))
  tk : PySem.W.takesIn K (.builtin "object.__class__") = some true
  mr : PySem.W.mroIn K C (.type "object") = some true
  ty : PySem.W.typeIn K (.ref C) = some (.type "type")
  hd : PySem.W.hasDictIn K C = true
theorem kit_no {K : PySem.W.Frag} {C : Addr} (h : IsC K C) : ∀ a ∈ ["NoneType", "bool", "int", "str", "list", "tuple", "dict"], PySem.W.kitOne K (.type a) (.ref C) = some false := by
  have h1 : ((PySem.W.clsIn K C).isSome && PySem.W.typeIn K (.ref C) == some (.type "type")) = true := by
    rw [h.ty, Bool.and_eq_true]
    refine ⟨?_, by simp⟩
    have q := h.hd
    unfold PySem.W.hasDictIn at q
    cases e : PySem.W.clsIn K C with
    | none => rw [e] at q; simp at q
    | some _ => rfl
  have h2 : ∀ a ∈ ["NoneType", "bool", "int", "str", "list", "tuple", "dict"], ∃ l, PySem.fastBuiltinMro a = some l ∧ ∀ v ∈ l, ∃ n, v = Value.type n := by
    intro a ha
    have key : ∀ a ∈ ["NoneType", "bool", "int", "str", "list", "tuple", "dict"], ((PySem.fastBuiltinMro a).elim false fun l => l.all fun v => match v with | .type _ => true | _ => false) = true := by decide +kernel
    have k := key a ha
    cases e : PySem.fastBuiltinMro a with
    | none => rw [e] at k; cases k
    | some l =>
      rw [e] at k
      refine ⟨l, rfl, fun v hv => ?_⟩
      have := List.all_eq_true.mp k v hv
      cases v <;> first | exact ⟨_, rfl⟩ | cases this
  intro a ha
  obtain ⟨l, hl, hv⟩ := h2 a ha
  unfold PySem.W.kitOne
  rw [if_neg (by simp)]
  unfold PySem.W.kitCls
  show (if ((PySem.W.clsIn K C).isSome && PySem.W.typeIn K (.ref C) == some (.type "type")) = true then PySem.W.subIn K (.type a) (.ref C) else none) = some false
  rw [if_pos h1]
  show (PySem.fastBuiltinMro a).map (·.contains (.ref C)) = some false
  rw [hl]
  have : l.contains (Value.ref C) = false := by
    rw [Bool.eq_false_iff]
    intro z
    have m : Value.ref C ∈ l := by simpa using z
    obtain ⟨n, e⟩ := hv _ m
    cases e
  rw [Option.map_some, this]
def mIsiC (c : Nat) (f : DEnv → M D) (ρ : DEnv) : M Cell := bnd (f ρ) fun d ρ => match d with
  | .ins c' _ _ => if c' = c then ret (.val (.bl true)) ρ else none
  | .scr _ => none
  | _ => ret (.val (.bl false)) ρ
theorem de_isiC {c : Nat} (hc : IsC w.K (w.C c)) {te : TE} {f : DEnv → M D} (h : DV w E te f) : DE w E (tCB (rIsi w.K) (tCons te (tCons (tC (.ref (w.C c))) tNil))) (mIsiC c f) := fun z F0 B ρ σ H F Q S k => by
  unfold mIsiC at k
  rw [wpM_bnd] at k
  refine h z F0 B ρ σ H F _ S (k.mono fun d ρ1 y v H1 F1 S1 e1 r1 => ?_)
  cases hd : isIns d with
  | true =>
    cases d <;> first | exact y.elim | cases hd | skip
    rename_i c' ns ds
    obtain ⟨hcc, y'⟩ := wpM_if (show wpM (if c' = c then ret (Cell.val (.bl true)) ρ1 else none) _ _ from y)
    clear y
    subst hcc
    cases r1 with
    | ins h1 h2 h3 => exact ⟨_, _, _, _, _, rfl, .own _, .base (.ins (S1.ext.i _ _ h1) hc.cl hc.ic hc.sp hc.tk hc.mr), by unfold PySem.W.kitOne; rw [if_pos (beq_self_eq_true _)], y' _ H1 F1 S1 e1 (.bl _)⟩
  | false =>
    obtain ⟨t1, t2⟩ := rep_ty S1.ext.i r1 hd
    refine ⟨v, _, _, _, _, rfl, .own _, t1, kit_no hc _ t2, ?_⟩
    have y : ∀ (v : V) (H' F' : Hp), Sim w z F0 B ρ1 σ H' F' → Same F F' → RV w F0 B ρ1 σ F' H' v (.val (.bl false)) → Q v H' := by
      cases d <;> first | exact y | cases hd
    exact y _ H1 F1 S1 e1 (.bl _)
end
end Dm

namespace Dm
open PySem PySem.Spec PyProof.Rows L2
/-- what the head asks of a law's def -/
def spLaw (K : PySem.W.Frag) : Sp := fun vs H Q _ => ∃ (a : Addr) (ns : List Int), vs = [.ref a] ∧ SqL K H a (ns.map V.int) ∧ ns.length ≤ 63 ∧ ∀ H', Q (.bl true) H'
def yes : Option (Except (Nat × D) Cell) := some (.ok (.val (.bl true)))
theorem law_sp {w : W} {m : Fn} (hm : ∀ ns : List Int, ns.length ≤ 63 → m [.scr ns] = yes) (vs : List V) (H : Hp) (Q : VK) (E : XK) (h : spLaw w.K vs H Q E) : spP w m vs H Q E := by
  obtain ⟨a, ns, rfl, hs, hl, k⟩ := h
  refine ⟨H, [.scr ns], .refl _, .cons (.scr hs) .nil, ?_⟩
  rw [hm ns hl]
  intro v H' F' e r
  have r : Rep w F' v (.bl true) := r
  cases r
  exact k H'
end Dm

namespace Dm
open PySem PySem.Spec PyProof.Rows L2
/-! ### mirrors, step by step: what follows is named, so that simp looks at nothing ahead of its turn -/
section
variable {α β : Type} {ρ ρ' : DEnv} {d e : D} {ds es : List D} {c : Cell}
@[simp] theorem e_big : big = 1000000 := .trans rfl rfl
@[simp] theorem e_ret {a : α} : ret a ρ = some (.ok a ρ) := .trans rfl rfl
@[simp] theorem e_bnd {a : α} {k : α → DEnv → M β} : bnd (some (.ok a ρ)) k = k a ρ := .trans rfl rfl
@[simp] theorem e_bndN {k : α → DEnv → M β} : bnd (none : M α) k = none := .trans rfl rfl
@[simp] theorem e_bndX {k : α → DEnv → M β} {n : Nat} : bnd (some (.exc n d) : M α) k = some (.exc n d) := .trans rfl rfl
/-- a cell that is looked at -/
def vC (i : Nat) (ρ : DEnv) : Option Cell → M D
  | some (.val d) => some (.ok d ρ)
  | some (.own false d) => some (.ok d (ρ.set i (.val d)))
  | _ => none
@[simp] theorem e_var {i : Nat} : mVar i ρ = vC i ρ ρ[i]? := .trans rfl rfl
@[simp] theorem e_vC1 {i : Nat} : vC i ρ (some (.val d)) = some (.ok d ρ) := .trans rfl rfl
@[simp] theorem e_vC2 {i : Nat} : vC i ρ (some (.own false d)) = some (.ok d (ρ.set i (.val d))) := .trans rfl rfl
def vM (i : Nat) (ρ : DEnv) : Option Cell → M Cell
  | some (.val d) => some (.ok (.val d) ρ)
  | some (.own false d) => some (.ok (.own false d) (ρ.set i .un))
  | _ => none
@[simp] theorem e_move {i : Nat} : mMove i ρ = vM i ρ ρ[i]? := .trans rfl rfl
@[simp] theorem e_vM1 {i : Nat} : vM i ρ (some (.val d)) = some (.ok (.val d) ρ) := .trans rfl rfl
@[simp] theorem e_vM2 {i : Nat} : vM i ρ (some (.own false d)) = some (.ok (.own false d) (ρ.set i .un)) := .trans rfl rfl
@[simp] theorem e_mC : mC d ρ = some (.ok d ρ) := .trans rfl rfl
@[simp] theorem e_mNil : mNil ρ = some (.ok [] ρ) := .trans rfl rfl
@[simp] theorem e_mYes : mYes ρ = some (.ok true ρ) := .trans rfl rfl
@[simp] theorem e_itW : itW ds ρ = some (.ok ds ρ) := .trans rfl rfl
def kCons2 (d : D) (ds : List D) (ρ : DEnv) : M (List D) := some (.ok (d :: ds) ρ)
def kCons (g : DEnv → M (List D)) (d : D) (ρ : DEnv) : M (List D) := bnd (g ρ) (kCons2 d)
@[simp] theorem e_mCons {f : DEnv → M D} {g : DEnv → M (List D)} : mCons f g ρ = bnd (f ρ) (kCons g) := .trans rfl rfl
@[simp] theorem e_kCons {g : DEnv → M (List D)} : kCons g d ρ = bnd (g ρ) (kCons2 d) := .trans rfl rfl
@[simp] theorem e_kCons2 : kCons2 d ds ρ = some (.ok (d :: ds) ρ) := .trans rfl rfl
def kFrz (c : Cell) (ρ : DEnv) : M D := match c with
  | .un => none
  | .val d => ret d ρ
  | .own _ d => ret d ρ
@[simp] theorem e_frz {f : DEnv → M Cell} : frz f ρ = bnd (f ρ) kFrz := .trans rfl rfl
@[simp] theorem e_kFrz1 : kFrz (.val d) ρ = some (.ok d ρ) := .trans rfl rfl
@[simp] theorem e_kFrz2 {b : Bool} : kFrz (.own b d) ρ = some (.ok d ρ) := .trans rfl rfl
def kToC (d : D) (ρ : DEnv) : M Cell := some (.ok (.val d) ρ)
@[simp] theorem e_toC {f : DEnv → M D} : toC f ρ = bnd (f ρ) kToC := .trans rfl rfl
@[simp] theorem e_kToC : kToC d ρ = some (.ok (.val d) ρ) := .trans rfl rfl
@[simp] theorem e_up : up (some c) ρ = some (.ok c ρ) := .trans rfl rfl
@[simp] theorem e_upN : up none ρ = none := .trans rfl rfl
def kOp2 (g : D → D → Option Cell) (d e : D) (ρ : DEnv) : M Cell := up (g d e) ρ
def kOp (g : D → D → Option Cell) (f : DEnv → M D) (d : D) (ρ : DEnv) : M Cell := bnd (f ρ) (kOp2 g d)
@[simp] theorem e_mOp {g : D → D → Option Cell} {f1 f2 : DEnv → M D} : mOp g f1 f2 ρ = bnd (f1 ρ) (kOp g f2) := .trans rfl rfl
@[simp] theorem e_kOp {g : D → D → Option Cell} {f : DEnv → M D} : kOp g f d ρ = bnd (f ρ) (kOp2 g d) := .trans rfl rfl
@[simp] theorem e_kOp2 {g : D → D → Option Cell} : kOp2 g d e ρ = up (g d e) ρ := .trans rfl rfl
def kUn (g : D → Option Cell) (d : D) (ρ : DEnv) : M Cell := up (g d) ρ
@[simp] theorem e_mUn {g : D → Option Cell} {f : DEnv → M D} : mUn g f ρ = bnd (f ρ) (kUn g) := .trans rfl rfl
@[simp] theorem e_kUn {g : D → Option Cell} : kUn g d ρ = up (g d) ρ := .trans rfl rfl
def kCB (g : List D → Option Cell) (ds : List D) (ρ : DEnv) : M Cell := up (g ds) ρ
@[simp] theorem e_mCB {g : List D → Option Cell} {f : DEnv → M (List D)} : mCB g f ρ = bnd (f ρ) (kCB g) := .trans rfl rfl
@[simp] theorem e_kCB {g : List D → Option Cell} : kCB g ds ρ = up (g ds) ρ := .trans rfl rfl
def kBML2 (h : List D → List D → Option Cell) (ds es : List D) (ρ : DEnv) : M Cell := up (h ds es) ρ
def kBML (h : List D → List D → Option Cell) (g : DEnv → M (List D)) (d : D) (ρ : DEnv) : M Cell := match d with
  | .lst ds => bnd (g ρ) fun es ρ => up (h ds es) ρ
  | _ => none
@[simp] theorem e_mBML {h : List D → List D → Option Cell} {f : DEnv → M D} {g : DEnv → M (List D)} : mBML h f g ρ = bnd (f ρ) (kBML h g) := .trans rfl rfl
@[simp] theorem e_kBML {h : List D → List D → Option Cell} {g : DEnv → M (List D)} : kBML h g (.lst ds) ρ = bnd (g ρ) (kBML2 h ds) := .trans rfl rfl
@[simp] theorem e_kBML2 {h : List D → List D → Option Cell} : kBML2 h ds es ρ = up (h ds es) ρ := .trans rfl rfl
/-! tests -/
def kTest (d : D) (ρ : DEnv) : M Bool := match d with
  | .bl b => ret b ρ
  | _ => none
@[simp] theorem e_mTest {f : DEnv → M D} : mTest f ρ = bnd (f ρ) kTest := .trans rfl rfl
@[simp] theorem e_kTest {b : Bool} : kTest (.bl b) ρ = some (.ok b ρ) := .trans rfl rfl
def kAnd (g : DEnv → M Bool) (b : Bool) (ρ : DEnv) : M Bool := if b = true then g ρ else ret false ρ
@[simp] theorem e_mAnd {f g : DEnv → M Bool} : mAnd f g ρ = bnd (f ρ) (kAnd g) := .trans rfl rfl
@[simp] theorem e_kAndT {g : DEnv → M Bool} : kAnd g true ρ = g ρ := .trans rfl rfl
@[simp] theorem e_kAndF {g : DEnv → M Bool} : kAnd g false ρ = some (.ok false ρ) := .trans rfl rfl
def kOr (g : DEnv → M Bool) (b : Bool) (ρ : DEnv) : M Bool := if b = true then ret true ρ else g ρ
@[simp] theorem e_mOr {f g : DEnv → M Bool} : mOr f g ρ = bnd (f ρ) (kOr g) := .trans rfl rfl
@[simp] theorem e_kOrT {g : DEnv → M Bool} : kOr g true ρ = some (.ok true ρ) := .trans rfl rfl
@[simp] theorem e_kOrF {g : DEnv → M Bool} : kOr g false ρ = g ρ := .trans rfl rfl
def kNot (b : Bool) (ρ : DEnv) : M Bool := some (.ok (!b) ρ)
@[simp] theorem e_mNot {f : DEnv → M Bool} : mNot f ρ = bnd (f ρ) kNot := .trans rfl rfl
@[simp] theorem e_kNot {b : Bool} : kNot b ρ = some (.ok (!b) ρ) := .trans rfl rfl
def kBl (b : Bool) (ρ : DEnv) : M D := some (.ok (.bl b) ρ)
@[simp] theorem e_mBl {f : DEnv → M Bool} : mBl f ρ = bnd (f ρ) kBl := .trans rfl rfl
@[simp] theorem e_kBl {b : Bool} : kBl b ρ = some (.ok (.bl b) ρ) := .trans rfl rfl
def kIf (f g : DEnv → M α) (b : Bool) (ρ : DEnv) : M α := if b = true then f ρ else g ρ
@[simp] theorem e_mIf {t : DEnv → M Bool} {f g : DEnv → M α} : mIf t f g ρ = bnd (t ρ) (kIf f g) := .trans rfl rfl
@[simp] theorem e_kIfT {f g : DEnv → M α} : kIf f g true ρ = f ρ := .trans rfl rfl
@[simp] theorem e_kIfF {f g : DEnv → M α} : kIf f g false ρ = g ρ := .trans rfl rfl
def kAndV (g : DEnv → M D) (b : Bool) (ρ : DEnv) : M D := if b = true then g ρ else ret (.bl false) ρ
@[simp] theorem e_mAndV {f g : DEnv → M D} : mAndV f g ρ = bnd (mTest f ρ) (kAndV g) := .trans rfl rfl
@[simp] theorem e_kAndVT {g : DEnv → M D} : kAndV g true ρ = g ρ := .trans rfl rfl
@[simp] theorem e_kAndVF {g : DEnv → M D} : kAndV g false ρ = some (.ok (.bl false) ρ) := .trans rfl rfl
def kOrV (g : DEnv → M D) (b : Bool) (ρ : DEnv) : M D := if b = true then ret (.bl true) ρ else g ρ
@[simp] theorem e_mOrV {f g : DEnv → M D} : mOrV f g ρ = bnd (mTest f ρ) (kOrV g) := .trans rfl rfl
@[simp] theorem e_kOrVT {g : DEnv → M D} : kOrV g true ρ = some (.ok (.bl true) ρ) := .trans rfl rfl
@[simp] theorem e_kOrVF {g : DEnv → M D} : kOrV g false ρ = g ρ := .trans rfl rfl
def kNotV (b : Bool) (ρ : DEnv) : M D := some (.ok (.bl (!b)) ρ)
@[simp] theorem e_mNotV {f : DEnv → M D} : mNotV f ρ = bnd (mTest f ρ) kNotV := .trans rfl rfl
@[simp] theorem e_kNotV {b : Bool} : kNotV b ρ = some (.ok (.bl (!b)) ρ) := .trans rfl rfl
def kCh5 (ρ : DEnv) : Option Cell → M D
  | some (.val (.bl k)) => ret (.bl k) ρ
  | _ => none
def kCh4 (g' : D → D → Option Cell) (b c : D) (ρ : DEnv) : M D := kCh5 ρ (g' b c)
def kCh3 (g' : D → D → Option Cell) (f3 : DEnv → M D) (b : D) (ρ : DEnv) : Option Cell → M D
  | some (.val (.bl true)) => bnd (f3 ρ) (kCh4 g' b)
  | some (.val (.bl false)) => ret (.bl false) ρ
  | _ => none
def kCh2 (g g' : D → D → Option Cell) (f3 : DEnv → M D) (a b : D) (ρ : DEnv) : M D := kCh3 g' f3 b ρ (g a b)
def kCh (g g' : D → D → Option Cell) (f2 f3 : DEnv → M D) (a : D) (ρ : DEnv) : M D := bnd (f2 ρ) (kCh2 g g' f3 a)
@[simp] theorem e_mChain {g g' : D → D → Option Cell} {f1 f2 f3 : DEnv → M D} : mChain g g' f1 f2 f3 ρ = bnd (f1 ρ) (kCh g g' f2 f3) := .trans rfl rfl
@[simp] theorem e_kCh {g g' : D → D → Option Cell} {f2 f3 : DEnv → M D} {a : D} : kCh g g' f2 f3 a ρ = bnd (f2 ρ) (kCh2 g g' f3 a) := .trans rfl rfl
@[simp] theorem e_kCh2 {g g' : D → D → Option Cell} {f3 : DEnv → M D} {a b : D} : kCh2 g g' f3 a b ρ = kCh3 g' f3 b ρ (g a b) := .trans rfl rfl
@[simp] theorem e_kCh3T {g' : D → D → Option Cell} {f3 : DEnv → M D} {b : D} : kCh3 g' f3 b ρ (some (.val (.bl true))) = bnd (f3 ρ) (kCh4 g' b) := .trans rfl rfl
@[simp] theorem e_kCh3F {g' : D → D → Option Cell} {f3 : DEnv → M D} {b : D} : kCh3 g' f3 b ρ (some (.val (.bl false))) = some (.ok (.bl false) ρ) := .trans rfl rfl
@[simp] theorem e_kCh4 {g' : D → D → Option Cell} {b c : D} : kCh4 g' b c ρ = kCh5 ρ (g' b c) := .trans rfl rfl
@[simp] theorem e_kCh5 {k : Bool} : kCh5 ρ (some (.val (.bl k))) = some (.ok (.bl k) ρ) := .trans rfl rfl
/-! displays -/
def kTup (ds : List D) (ρ : DEnv) : M D := if ds.length ≤ big then ret (.tup ds) ρ else none
@[simp] theorem e_mTup {f : DEnv → M (List D)} : mTup f ρ = bnd (f ρ) kTup := .trans rfl rfl
@[simp] theorem e_kTup (h : ds.length ≤ 1000000) : kTup ds ρ = some (.ok (.tup ds) ρ) := if_pos h
def kLst (ds : List D) (ρ : DEnv) : M Cell := if ds.length ≤ big then ret (.own false (.lst ds)) ρ else none
@[simp] theorem e_mLst {f : DEnv → M (List D)} : mLst f ρ = bnd (f ρ) kLst := .trans rfl rfl
@[simp] theorem e_kLst (h : ds.length ≤ 1000000) : kLst ds ρ = some (.ok (.own false (.lst ds)) ρ) := if_pos h
@[simp] theorem e_mDNew {t : Nat} : mDNew t ρ = some (.ok (.own false (.dct t [] [])) ρ) := .trans rfl rfl
def kDisp (ps : List (D × D)) (ρ : DEnv) : M Cell := if ps.length ≤ 15 then (match dmerge [] [] ps with
    | some r => ret (.own false (.dct 0 r.1 r.2)) ρ
    | none => none) else none
@[simp] theorem e_mDisp {fs : List ((DEnv → M D) × (DEnv → M D))} : mDisp fs ρ = bnd (mPairs fs ρ) kDisp := .trans rfl rfl
def kPs3 (x v : D) (ps : List (D × D)) (ρ : DEnv) : M (List (D × D)) := some (.ok ((x, v) :: ps) ρ)
def kPs2 (r : List ((DEnv → M D) × (DEnv → M D))) (x v : D) (ρ : DEnv) : M (List (D × D)) := bnd (mPairs r ρ) (kPs3 x v)
def kPs (g : DEnv → M D) (r : List ((DEnv → M D) × (DEnv → M D))) (x : D) (ρ : DEnv) : M (List (D × D)) := bnd (g ρ) (kPs2 r x)
@[simp] theorem e_mPairs0 : mPairs [] ρ = some (.ok [] ρ) := .trans rfl rfl
@[simp] theorem e_mPairs {f g : DEnv → M D} {r : List ((DEnv → M D) × (DEnv → M D))} : mPairs ((f, g) :: r) ρ = bnd (f ρ) (kPs g r) := .trans rfl rfl
@[simp] theorem e_kPs {g : DEnv → M D} {r : List ((DEnv → M D) × (DEnv → M D))} {x : D} : kPs g r x ρ = bnd (g ρ) (kPs2 r x) := .trans rfl rfl
@[simp] theorem e_kPs2 {r : List ((DEnv → M D) × (DEnv → M D))} {x v : D} : kPs2 r x v ρ = bnd (mPairs r ρ) (kPs3 x v) := .trans rfl rfl
@[simp] theorem e_kPs3 {x v : D} {ps : List (D × D)} : kPs3 x v ps ρ = some (.ok ((x, v) :: ps) ρ) := .trans rfl rfl
@[simp] theorem e_kDisp {ps : List (D × D)} {r : List D × List D} (h : ps.length ≤ 15) (h2 : dmerge [] [] ps = some r) : kDisp ps ρ = some (.ok (.own false (.dct 0 r.1 r.2)) ρ) := by
  unfold kDisp; rw [if_pos h, h2]; rfl
/-! slices, attributes, calls -/
@[simp] theorem e_mNoPart : mNoPart ρ = some (.ok none ρ) := .trans rfl rfl
def kPart (d : D) (ρ : DEnv) : M (Option Int) := match d with
  | .int i => ret (some i) ρ
  | _ => none
@[simp] theorem e_mPart {f : DEnv → M D} : mPart f ρ = bnd (f ρ) kPart := .trans rfl rfl
@[simp] theorem e_kPart {i : Int} : kPart (.int i) ρ = some (.ok (some i) ρ) := .trans rfl rfl
def kSl3 (d : D) (l h : Option Int) (ρ : DEnv) : M Cell := up (gSl l h d) ρ
def kSl2 (fh : DEnv → M (Option Int)) (d : D) (l : Option Int) (ρ : DEnv) : M Cell := bnd (fh ρ) (kSl3 d l)
def kSl (fl fh : DEnv → M (Option Int)) (d : D) (ρ : DEnv) : M Cell := bnd (fl ρ) (kSl2 fh d)
@[simp] theorem e_mSl {f : DEnv → M D} {fl fh : DEnv → M (Option Int)} : mSl f fl fh ρ = bnd (f ρ) (kSl fl fh) := .trans rfl rfl
@[simp] theorem e_kSl {fl fh : DEnv → M (Option Int)} : kSl fl fh d ρ = bnd (fl ρ) (kSl2 fh d) := .trans rfl rfl
@[simp] theorem e_kSl2 {fh : DEnv → M (Option Int)} {l : Option Int} : kSl2 fh d l ρ = bnd (fh ρ) (kSl3 d l) := .trans rfl rfl
@[simp] theorem e_kSl3 {l h : Option Int} : kSl3 d l h ρ = up (gSl l h d) ρ := .trans rfl rfl
def kFld (cs : List Nat) (f : Str) (d : D) (ρ : DEnv) : M Cell := up (gFld cs f d) ρ
@[simp] theorem e_mFld {cs : List Nat} {f : Str} {g : DEnv → M D} : mFld cs f g ρ = bnd (g ρ) (kFld cs f) := .trans rfl rfl
@[simp] theorem e_kFld {cs : List Nat} {f : Str} : kFld cs f d ρ = up (gFld cs f d) ρ := .trans rfl rfl
@[simp] theorem e_upC : upC (some (.ok c)) ρ = some (.ok c ρ) := .trans rfl rfl
@[simp] theorem e_upCN : upC none ρ = none := .trans rfl rfl
def kCall (m : Fn) (ds : List D) (ρ : DEnv) : M Cell := upC (m ds) ρ
@[simp] theorem e_mCall {m : Fn} {f : DEnv → M (List D)} : mCall m f ρ = bnd (f ρ) (kCall m) := .trans rfl rfl
@[simp] theorem e_kCall {m : Fn} : kCall m ds ρ = upC (m ds) ρ := .trans rfl rfl
def kMeth2 (m : Fn) (d : D) (es : List D) (ρ : DEnv) : M Cell := upC (m (d :: es)) ρ
def kMeth (c : Nat) (nm : Str) (m : Fn) (g : DEnv → M (List D)) (d : D) (ρ : DEnv) : M Cell := match d with
  | .ins c' ns ds => if c' = c ∧ nm ∉ ns then bnd (g ρ) fun es ρ => upC (m (.ins c' ns ds :: es)) ρ else none
  | _ => none
@[simp] theorem e_mMeth {c : Nat} {nm : Str} {m : Fn} {f : DEnv → M D} {g : DEnv → M (List D)} : mMeth c nm m f g ρ = bnd (f ρ) (kMeth c nm m g) := .trans rfl rfl
@[simp] theorem e_kMeth {c : Nat} {nm : Str} {m : Fn} {g : DEnv → M (List D)} {ns : List Str} (h : nm ∉ ns) : kMeth c nm m g (.ins c ns ds) ρ = bnd (g ρ) (kMeth2 m (.ins c ns ds)) := if_pos ⟨rfl, h⟩
@[simp] theorem e_kMeth2 {m : Fn} : kMeth2 m d es ρ = upC (m (d :: es)) ρ := .trans rfl rfl
/-! what is walked -/
def kSeq (d : D) (ρ : DEnv) : M (List D) := match d with
  | .lst xs => ret xs ρ
  | .tup xs => ret xs ρ
  | .str s => ret (signsD s) ρ
  | _ => none
@[simp] theorem e_kSeqS {s : Str} : kSeq (.str s) ρ = some (.ok (signsD s) ρ) := .trans rfl rfl
@[simp] theorem e_itSeq {f : DEnv → M D} : itSeq f ρ = bnd (f ρ) kSeq := .trans rfl rfl
@[simp] theorem e_kSeqL : kSeq (.lst ds) ρ = some (.ok ds ρ) := .trans rfl rfl
@[simp] theorem e_kSeqT : kSeq (.tup ds) ρ = some (.ok ds ρ) := .trans rfl rfl
def kRng1 (ds : List D) (ρ : DEnv) : M (List D) := match ds with
  | [.int j] => if small62 j = true then ret (rngD 0 j.toNat) ρ else none
  | _ => none
@[simp] theorem e_itRng1 {f : DEnv → M (List D)} : itRng1 f ρ = bnd (f ρ) kRng1 := .trans rfl rfl
@[simp] theorem e_kRng1 {j : Int} (h : small62 j = true) : kRng1 [.int j] ρ = some (.ok (rngD 0 j.toNat) ρ) := if_pos h
def kRng2 (ds : List D) (ρ : DEnv) : M (List D) := match ds with
  | [.int i, .int j] => if small62 i = true ∧ small62 j = true then ret (rngD i (j - i).toNat) ρ else none
  | _ => none
@[simp] theorem e_itRng2 {f : DEnv → M (List D)} : itRng2 f ρ = bnd (f ρ) kRng2 := .trans rfl rfl
@[simp] theorem e_kRng2 {i j : Int} (h : small62 i = true) (h2 : small62 j = true) : kRng2 [.int i, .int j] ρ = some (.ok (rngD i (j - i).toNat) ρ) := if_pos ⟨h, h2⟩
def kEnum (ds : List D) (ρ : DEnv) : M (List D) := match ds with
  | [.lst xs] => ret (enumD xs) ρ
  | [.tup xs] => ret (enumD xs) ρ
  | _ => none
@[simp] theorem e_itEnum {f : DEnv → M (List D)} : itEnum f ρ = bnd (f ρ) kEnum := .trans rfl rfl
@[simp] theorem e_kEnumL : kEnum [.lst ds] ρ = some (.ok (enumD ds) ρ) := .trans rfl rfl
@[simp] theorem e_kEnumT : kEnum [.tup ds] ρ = some (.ok (enumD ds) ρ) := .trans rfl rfl
/-! targets -/
def sC (i : Nat) (c : Cell) (ρ : DEnv) : Option Cell → Option DEnv
  | some (.own true _) => none
  | some _ => some (ρ.set i c)
  | none => none
@[simp] theorem e_setC {i : Nat} : setC i c ρ = sC i c ρ ρ[i]? := .trans rfl rfl
@[simp] theorem e_sC0 {i : Nat} : sC i c ρ (some .un) = some (ρ.set i c) := .trans rfl rfl
@[simp] theorem e_sC1 {i : Nat} : sC i c ρ (some (.val d)) = some (ρ.set i c) := .trans rfl rfl
@[simp] theorem e_sC2 {i : Nat} : sC i c ρ (some (.own false d)) = some (ρ.set i c) := .trans rfl rfl
@[simp] theorem e_tgN {i : Nat} : tgN i d ρ = setC i (.val d) ρ := .trans rfl rfl
@[simp] theorem e_tgNil : tgNil [] ρ = some ρ := .trans rfl rfl
@[simp] theorem e_tgCons {tf : D → DEnv → Option DEnv} {ts : List D → DEnv → Option DEnv} : tgCons tf ts (d :: ds) ρ = (tf d ρ).bind (ts ds) := .trans rfl rfl
@[simp] theorem e_unD {n : Nat} {ts : List D → DEnv → Option DEnv} (h : ds.length = n) : unD n ts (.tup ds) ρ = ts ds ρ := if_pos h
@[simp] theorem e_unDL {n : Nat} {ts : List D → DEnv → Option DEnv} (h : ds.length = n) : unD n ts (.lst ds) ρ = ts ds ρ := if_pos h
/-! comprehensions -/
@[simp] theorem e_wipe0 : wipeC ρ [] = ρ := .trans rfl rfl
@[simp] theorem e_wipe1 {v : Nat} {vs : List Nat} : wipeC ρ (v :: vs) = (wipeC ρ vs).set v .un := .trans rfl rfl
@[simp] theorem e_rest0 : restC ρ' ρ [] = ρ := .trans rfl rfl
@[simp] theorem e_rest1 {v : Nat} {vs : List Nat} : restC ρ' ρ (v :: vs) = (restC ρ' ρ vs).set v (keepV ρ'[v]?) := .trans rfl rfl
@[simp] theorem e_keepV : keepV (some (.val d)) = .val d := .trans rfl rfl
@[simp] theorem e_keepU : keepV (some .un) = .un := .trans rfl rfl
@[simp] theorem e_keepO {b : Bool} : keepV (some (.own b d)) = .un := .trans rfl rfl
def kLc2 (ρ0 : DEnv) (vs : List Nat) : Option (List D × DEnv) → M Cell
  | some (acc, ρ) => ret (.own false (.lst acc)) (restC ρ0 ρ vs)
  | none => none
def kLc (vs : List Nat) (tf : D → DEnv → Option DEnv) (tt : DEnv → M Bool) (te : DEnv → M D) (ds : List D) (ρ0 : DEnv) : M Cell := kLc2 ρ0 vs (lcGo vs tf tt te ds (wipeC ρ0 vs) [])
@[simp] theorem e_mLc {it : DEnv → M (List D)} {vs : List Nat} {tf : D → DEnv → Option DEnv} {tt : DEnv → M Bool} {te : DEnv → M D} : mLc it vs tf tt te ρ = bnd (it ρ) (kLc vs tf tt te) := .trans rfl rfl
@[simp] theorem e_kLc {vs : List Nat} {tf : D → DEnv → Option DEnv} {tt : DEnv → M Bool} {te : DEnv → M D} : kLc vs tf tt te ds ρ = kLc2 ρ vs (lcGo vs tf tt te ds (wipeC ρ vs) []) := .trans rfl rfl
@[simp] theorem e_kLc2 {vs : List Nat} : kLc2 ρ' vs (some (ds, ρ)) = some (.ok (.own false (.lst ds)) (restC ρ' ρ vs)) := .trans rfl rfl
def kDc2 (ρ0 : DEnv) (vs : List Nat) : Option ((List D × List D) × DEnv) → M Cell
  | some (p, ρ) => ret (.own false (.dct 0 p.1 p.2)) (restC ρ0 ρ vs)
  | none => none
def kDc (vs : List Nat) (tf : D → DEnv → Option DEnv) (tt : DEnv → M Bool) (tk te : DEnv → M D) (ds : List D) (ρ0 : DEnv) : M Cell := kDc2 ρ0 vs (dcGo vs tf tt tk te ds (wipeC ρ0 vs) [] [])
@[simp] theorem e_mDc {it : DEnv → M (List D)} {vs : List Nat} {tf : D → DEnv → Option DEnv} {tt : DEnv → M Bool} {tk te : DEnv → M D} : mDc it vs tf tt tk te ρ = bnd (it ρ) (kDc vs tf tt tk te) := .trans rfl rfl
@[simp] theorem e_kDc {vs : List Nat} {tf : D → DEnv → Option DEnv} {tt : DEnv → M Bool} {tk te : DEnv → M D} : kDc vs tf tt tk te ds ρ = kDc2 ρ vs (dcGo vs tf tt tk te ds (wipeC ρ vs) [] []) := .trans rfl rfl
@[simp] theorem e_kDc2 {vs : List Nat} {p : List D × List D} : kDc2 ρ' vs (some (p, ρ)) = some (.ok (.own false (.dct 0 p.1 p.2)) (restC ρ' ρ vs)) := .trans rfl rfl
def kLd2 (ρ0 : DEnv) (vs : List Nat) : Option (List D × DEnv) → M Cell := kLc2 ρ0 vs
def kL2 (vs vs1 : List Nat) (tf : D → DEnv → Option DEnv) (tt : DEnv → M Bool) (it1 : DEnv → M (List D)) (tf1 : D → DEnv → Option DEnv) (tt1 : DEnv → M Bool) (te : DEnv → M D) (ds : List D) (ρ0 : DEnv) : M Cell := kLc2 ρ0 vs (lc2Go vs vs1 tf tt it1 tf1 tt1 te ds (wipeC ρ0 vs) [])
@[simp] theorem e_mLc2 {it it1 : DEnv → M (List D)} {vs vs1 : List Nat} {tf tf1 : D → DEnv → Option DEnv} {tt tt1 : DEnv → M Bool} {te : DEnv → M D} : mLc2 it vs vs1 tf tt it1 tf1 tt1 te ρ = bnd (it ρ) (kL2 vs vs1 tf tt it1 tf1 tt1 te) := .trans rfl rfl
@[simp] theorem e_kL2 {it1 : DEnv → M (List D)} {vs vs1 : List Nat} {tf tf1 : D → DEnv → Option DEnv} {tt tt1 : DEnv → M Bool} {te : DEnv → M D} : kL2 vs vs1 tf tt it1 tf1 tt1 te ds ρ = kLc2 ρ vs (lc2Go vs vs1 tf tt it1 tf1 tt1 te ds (wipeC ρ vs) []) := .trans rfl rfl
/-! statements -/
@[simp] theorem e_bindS {a : α} {k : α → DEnv → Option O} : bindS (some (.ok a ρ)) k = k a ρ := .trans rfl rfl
@[simp] theorem e_bindSN {k : α → DEnv → Option O} : bindS (none : M α) k = none := .trans rfl rfl
@[simp] theorem e_sNx : sNx ρ = some (.nx ρ) := .trans rfl rfl
def kSq (b : MS) : Option O → Option O
  | some (.nx ρ) => b ρ
  | o => o
@[simp] theorem e_sSeq {a b : MS} : sSeq a b ρ = kSq b (a ρ) := .trans rfl rfl
@[simp] theorem e_kSq {b : MS} : kSq b (some (.nx ρ)) = b ρ := .trans rfl rfl
@[simp] theorem e_kSqR {b : MS} : kSq b (some (.rt c ρ)) = some (.rt c ρ) := .trans rfl rfl
@[simp] theorem e_kSqB {b : MS} : kSq b (some (.bk ρ)) = some (.bk ρ) := .trans rfl rfl
@[simp] theorem e_kSqC {b : MS} : kSq b (some (.ct ρ)) = some (.ct ρ) := .trans rfl rfl
@[simp] theorem e_kSqN {b : MS} : kSq b none = none := .trans rfl rfl
@[simp] theorem e_clr1 : clr (.val d) = .val d := .trans rfl rfl
@[simp] theorem e_clr2 {b : Bool} : clr (.own b d) = .own false d := .trans rfl rfl
def kSet (i : Nat) (c : Cell) (ρ : DEnv) : Option O := (setC i (clr c) ρ).map .nx
@[simp] theorem e_sSet {i : Nat} {f : DEnv → M Cell} : sSet i f ρ = bindS (f ρ) (kSet i) := .trans rfl rfl
@[simp] theorem e_kSet {i : Nat} : kSet i c ρ = (setC i (clr c) ρ).map .nx := .trans rfl rfl
def kSUn (tf : D → DEnv → Option DEnv) (d : D) (ρ : DEnv) : Option O := (tf d ρ).map .nx
@[simp] theorem e_sUn {tf : D → DEnv → Option DEnv} {f : DEnv → M D} : sUn tf f ρ = bindS (f ρ) (kSUn tf) := .trans rfl rfl
@[simp] theorem e_kSUn {tf : D → DEnv → Option DEnv} : kSUn tf d ρ = (tf d ρ).map .nx := .trans rfl rfl
def kPar (i j : Nat) (ds : List D) (ρ : DEnv) : Option O := match ds with
  | [d, e] => ((setC i (.val d) ρ).bind fun ρ => setC j (.val e) ρ).map .nx
  | _ => none
@[simp] theorem e_sPar {i j : Nat} {f : DEnv → M (List D)} : sPar i j f ρ = bindS (f ρ) (kPar i j) := .trans rfl rfl
@[simp] theorem e_kPar {i j : Nat} : kPar i j [d, e] ρ = ((setC i (.val d) ρ).bind (setC j (.val e))).map .nx := .trans rfl rfl
def kPar3b (j l : Nat) (e g : D) (ρ : DEnv) : Option DEnv := (setC j (.val e) ρ).bind (setC l (.val g))
def kPar3 (i j l : Nat) (ds : List D) (ρ : DEnv) : Option O := match ds with
  | [d, e, g] => ((setC i (.val d) ρ).bind fun ρ => (setC j (.val e) ρ).bind fun ρ => setC l (.val g) ρ).map .nx
  | _ => none
@[simp] theorem e_sPar3 {i j l : Nat} {f : DEnv → M (List D)} : sPar3 i j l f ρ = bindS (f ρ) (kPar3 i j l) := .trans rfl rfl
@[simp] theorem e_kPar3 {i j l : Nat} {g : D} : kPar3 i j l [d, e, g] ρ = ((setC i (.val d) ρ).bind (kPar3b j l e g)).map .nx := .trans rfl rfl
@[simp] theorem e_kPar3b {j l : Nat} {g : D} : kPar3b j l e g ρ = (setC j (.val e) ρ).bind (setC l (.val g)) := .trans rfl rfl
def kSIf (a b : MS) (c : Bool) (ρ : DEnv) : Option O := if c = true then a ρ else b ρ
@[simp] theorem e_sIf {t : DEnv → M Bool} {a b : MS} : sIf t a b ρ = bindS (t ρ) (kSIf a b) := .trans rfl rfl
@[simp] theorem e_kSIfT {a b : MS} : kSIf a b true ρ = a ρ := .trans rfl rfl
@[simp] theorem e_kSIfF {a b : MS} : kSIf a b false ρ = b ρ := .trans rfl rfl
def kRet (c : Cell) (ρ : DEnv) : Option O := some (.rt c ρ)
@[simp] theorem e_sRet {f : DEnv → M Cell} : sRet f ρ = bindS (f ρ) kRet := .trans rfl rfl
@[simp] theorem e_kRet : kRet c ρ = some (.rt c ρ) := .trans rfl rfl
@[simp] theorem e_sRetN : sRetN ρ = some (.rt (.val .non) ρ) := .trans rfl rfl
def kDrop (c : Cell) (ρ : DEnv) : Option O := some (.nx ρ)
@[simp] theorem e_sDrop {f : DEnv → M Cell} : sDrop f ρ = bindS (f ρ) kDrop := .trans rfl rfl
@[simp] theorem e_kDrop : kDrop c ρ = some (.nx ρ) := .trans rfl rfl
@[simp] theorem e_sBreak : sBreak ρ = some (.bk ρ) := .trans rfl rfl
@[simp] theorem e_sCont : sCont ρ = some (.ct ρ) := .trans rfl rfl
@[simp] theorem e_sNever : sNever ρ = none := .trans rfl rfl
def kFor2 (tf : D → DEnv → Option DEnv) (body : MS) (ds : List D) : Option O → Option O
  | some (.nx ρ) => forGo tf body ds ρ
  | some (.ct ρ) => forGo tf body ds ρ
  | some (.bk ρ) => some (.nx ρ)
  | o => o
def kFor1 (tf : D → DEnv → Option DEnv) (body : MS) (ds : List D) : Option DEnv → Option O
  | none => none
  | some ρ => kFor2 tf body ds (body ρ)
@[simp] theorem e_sFor {it : DEnv → M (List D)} {tf : D → DEnv → Option DEnv} {body : MS} : sFor it tf body ρ = bindS (it ρ) (forGo tf body) := .trans rfl rfl
@[simp] theorem e_for0 {tf : D → DEnv → Option DEnv} {body : MS} : forGo tf body [] ρ = some (.nx ρ) := .trans rfl rfl
@[simp] theorem e_for1 {tf : D → DEnv → Option DEnv} {body : MS} : forGo tf body (d :: ds) ρ = kFor1 tf body ds (tf d ρ) := .trans rfl rfl
@[simp] theorem e_kFor1 {tf : D → DEnv → Option DEnv} {body : MS} : kFor1 tf body ds (some ρ) = kFor2 tf body ds (body ρ) := .trans rfl rfl
@[simp] theorem e_kFor2 {tf : D → DEnv → Option DEnv} {body : MS} : kFor2 tf body ds (some (.nx ρ)) = forGo tf body ds ρ := .trans rfl rfl
@[simp] theorem e_kFor2C {tf : D → DEnv → Option DEnv} {body : MS} : kFor2 tf body ds (some (.ct ρ)) = forGo tf body ds ρ := .trans rfl rfl
@[simp] theorem e_kFor2B {tf : D → DEnv → Option DEnv} {body : MS} : kFor2 tf body ds (some (.bk ρ)) = some (.nx ρ) := .trans rfl rfl
@[simp] theorem e_kFor2R {tf : D → DEnv → Option DEnv} {body : MS} : kFor2 tf body ds (some (.rt c ρ)) = some (.rt c ρ) := .trans rfl rfl
@[simp] theorem e_sWhile {n : Nat} {t : DEnv → M Bool} {body : MS} : sWhile n t body ρ = whGo t body n ρ := .trans rfl rfl
/-! changes -/
def iL : Option Cell → Bool
  | some (.own _ (.lst _)) => true
  | _ => false
@[simp] theorem e_isOwnL {i : Nat} : isOwnL ρ i = iL ρ[i]? := .trans rfl rfl
@[simp] theorem e_iL {b : Bool} : iL (some (.own b (.lst ds))) = true := .trans rfl rfl
def iA : Option Cell → Bool
  | some (.own _ _) => true
  | _ => false
@[simp] theorem e_isOwnA {i : Nat} : isOwnA ρ i = iA ρ[i]? := .trans rfl rfl
@[simp] theorem e_iA {b : Bool} : iA (some (.own b d)) = true := .trans rfl rfl
def kApp2 (i : Nat) (d : D) (ρ : DEnv) : Option O := (putApp i d ρ).map .nx
def kApp (i : Nat) (f : DEnv → M D) (ρ : DEnv) (b : Bool) : Option O := if b = true then bindS (f ρ) (kApp2 i) else none
@[simp] theorem e_sApp {i : Nat} {f : DEnv → M D} : sApp i f ρ = kApp i f ρ (isOwnL ρ i) := .trans rfl rfl
@[simp] theorem e_kApp {i : Nat} {f : DEnv → M D} : kApp i f ρ true = bindS (f ρ) (kApp2 i) := .trans rfl rfl
@[simp] theorem e_kApp2 {i : Nat} : kApp2 i d ρ = (putApp i d ρ).map .nx := .trans rfl rfl
def pApp (i : Nat) (d : D) (ρ : DEnv) : Option Cell → Option DEnv
  | some (.own k (.lst ds)) => if ds.length < big then some (ρ.set i (.own k (.lst (ds ++ [d])))) else none
  | _ => none
@[simp] theorem e_putApp {i : Nat} : putApp i d ρ = pApp i d ρ ρ[i]? := .trans rfl rfl
@[simp] theorem e_pApp {i : Nat} {k : Bool} (h : ds.length < 1000000) : pApp i d ρ (some (.own k (.lst ds))) = some (ρ.set i (.own k (.lst (ds ++ [d])))) := if_pos h
def kExt2 (i : Nat) (d : D) (ρ : DEnv) : Option O := match d with
  | .lst es => (putExt i es ρ).map .nx
  | _ => none
def kExt (i : Nat) (f : DEnv → M D) (ρ : DEnv) (b : Bool) : Option O := if b = true then bindS (f ρ) (kExt2 i) else none
@[simp] theorem e_sExt {i : Nat} {f : DEnv → M D} : sExt i f ρ = kExt i f ρ (isOwnL ρ i) := .trans rfl rfl
@[simp] theorem e_kExt {i : Nat} {f : DEnv → M D} : kExt i f ρ true = bindS (f ρ) (kExt2 i) := .trans rfl rfl
@[simp] theorem e_kExt2 {i : Nat} : kExt2 i (.lst es) ρ = (putExt i es ρ).map .nx := .trans rfl rfl
def pExt (i : Nat) (es : List D) (ρ : DEnv) : Option Cell → Option DEnv
  | some (.own k (.lst ds)) => if ds.length + es.length ≤ big then some (ρ.set i (.own k (.lst (ds ++ es)))) else none
  | _ => none
@[simp] theorem e_putExt {i : Nat} : putExt i es ρ = pExt i es ρ ρ[i]? := .trans rfl rfl
@[simp] theorem e_pExt {i : Nat} {k : Bool} (h : ds.length + es.length ≤ 1000000) : pExt i es ρ (some (.own k (.lst ds))) = some (ρ.set i (.own k (.lst (ds ++ es)))) := if_pos h
def kPut3 (i : Nat) (v x : D) (ρ : DEnv) : Option O := (putAt i x v ρ).map .nx
def kPut2 (i : Nat) (fx : DEnv → M D) (v : D) (ρ : DEnv) (b : Bool) : Option O := if b = true then bindS (fx ρ) (kPut3 i v) else none
def kPut (i : Nat) (fx : DEnv → M D) (v : D) (ρ : DEnv) : Option O := kPut2 i fx v ρ (isOwnA ρ i)
@[simp] theorem e_sPut {i : Nat} {fx fv : DEnv → M D} : sPut i fx fv ρ = bindS (fv ρ) (kPut i fx) := .trans rfl rfl
@[simp] theorem e_kPut {i : Nat} {fx : DEnv → M D} : kPut i fx d ρ = kPut2 i fx d ρ (isOwnA ρ i) := .trans rfl rfl
@[simp] theorem e_kPut2 {i : Nat} {fx : DEnv → M D} : kPut2 i fx d ρ true = bindS (fx ρ) (kPut3 i d) := .trans rfl rfl
@[simp] theorem e_kPut3 {i : Nat} {x : D} : kPut3 i d x ρ = (putAt i x d ρ).map .nx := .trans rfl rfl
def pAt (i : Nat) (x v : D) (ρ : DEnv) : Option Cell → Option DEnv
  | some (.own k (.lst ds)) => match x with
    | .int j => (ixN ds.length j).map fun n => ρ.set i (.own k (.lst (ds.set n v)))
    | _ => none
  | some (.own k (.dct t ks vs)) => if ks.length < big then (dput t ks vs x v).map fun p => ρ.set i (.own k (.dct t p.1 p.2)) else none
  | _ => none
@[simp] theorem e_putAt {i : Nat} {x : D} : putAt i x d ρ = pAt i x d ρ ρ[i]? := .trans rfl rfl
@[simp] theorem e_pAtL {i : Nat} {j : Int} {k : Bool} {n : Nat} (h : ixN ds.length j = some n) : pAt i (.int j) d ρ (some (.own k (.lst ds))) = some (ρ.set i (.own k (.lst (ds.set n d)))) := by
  show (ixN ds.length j).map _ = _
  rw [h]; rfl
@[simp] theorem e_pAtD {i t : Nat} {x : D} {k : Bool} {vs : List D} {p : List D × List D} (h : ds.length < 1000000) (h2 : dput t ds vs x d = some p) : pAt i x d ρ (some (.own k (.dct t ds vs))) = some (ρ.set i (.own k (.dct t p.1 p.2))) := by
  show (if ds.length < big then _ else _) = _
  rw [if_pos (show ds.length < big from h), h2]; rfl
def kTgP2 (i : Nat) (d : D) : M D → Option DEnv
  | some (.ok x ρ) => putAt i x d ρ
  | _ => none
def kTgP (i : Nat) (fx : DEnv → M D) (d : D) (ρ : DEnv) (b : Bool) : Option DEnv := if b = true then kTgP2 i d (fx ρ) else none
@[simp] theorem e_tgPut {i : Nat} {fx : DEnv → M D} : tgPut i fx d ρ = kTgP i fx d ρ (isOwnA ρ i) := .trans rfl rfl
@[simp] theorem e_kTgP {i : Nat} {fx : DEnv → M D} : kTgP i fx d ρ true = kTgP2 i d (fx ρ) := .trans rfl rfl
@[simp] theorem e_kTgP2 {i : Nat} {x : D} : kTgP2 i d (some (.ok x ρ)) = putAt i x d ρ := .trans rfl rfl
def kFP (cs : List Nat) (i : Nat) (f : Str) (d : D) (ρ : DEnv) : Option O := (putFld cs i f d ρ).map .nx
@[simp] theorem e_sFldPut {cs : List Nat} {i : Nat} {f : Str} {fv : DEnv → M D} : sFldPut cs i f fv ρ = bindS (fv ρ) (kFP cs i f) := .trans rfl rfl
@[simp] theorem e_kFP {cs : List Nat} {i : Nat} {f : Str} : kFP cs i f d ρ = (putFld cs i f d ρ).map .nx := .trans rfl rfl
def pF (cs : List Nat) (i : Nat) (f : Str) (d : D) (ρ : DEnv) : Option Cell → Option DEnv
  | some (.own k (.ins c ns ds)) => if c ∈ cs ∧ ns.length < 100 then some (ρ.set i (.own k (.ins c (putFD f d ns ds).1 (putFD f d ns ds).2))) else none
  | _ => none
@[simp] theorem e_putFld {cs : List Nat} {i : Nat} {f : Str} : putFld cs i f d ρ = pF cs i f d ρ ρ[i]? := .trans rfl rfl
@[simp] theorem e_pF {cs : List Nat} {i c : Nat} {f : Str} {k : Bool} {ns : List Str} (h : c ∈ cs) (h2 : ns.length < 100) : pF cs i f d ρ (some (.own k (.ins c ns ds))) = some (ρ.set i (.own k (.ins c (putFD f d ns ds).1 (putFD f d ns ds).2))) := if_pos ⟨h, h2⟩
/-! in-out calls, making -/
@[simp] theorem e_upI {i : Nat} {k : Bool} : upI i k ρ (some (.ok (c, d))) = some (.ok (clr c) (ρ.set i (.own k d))) := .trans rfl rfl
def kCI3 (m : FnI) (i : Nat) (ds : List D) (ρ : DEnv) : Option Cell → M Cell
  | some (.own k d0) => upI i k ρ (m (d0 :: ds))
  | _ => none
def kCI2 (m : FnI) (i : Nat) (ds : List D) (ρ : DEnv) : M Cell := kCI3 m i ds ρ ρ[i]?
def kCI (m : FnI) (i : Nat) (f : DEnv → M (List D)) (ρ : DEnv) (b : Bool) : M Cell := if b = true then bnd (f ρ) (kCI2 m i) else none
@[simp] theorem e_mCallI {m : FnI} {i : Nat} {f : DEnv → M (List D)} : mCallI m i f ρ = kCI m i f ρ (isOwnA ρ i) := .trans rfl rfl
@[simp] theorem e_kCI {m : FnI} {i : Nat} {f : DEnv → M (List D)} : kCI m i f ρ true = bnd (f ρ) (kCI2 m i) := .trans rfl rfl
@[simp] theorem e_kCI2 {m : FnI} {i : Nat} : kCI2 m i ds ρ = kCI3 m i ds ρ ρ[i]? := .trans rfl rfl
@[simp] theorem e_kCI3 {m : FnI} {i : Nat} {k : Bool} : kCI3 m i ds ρ (some (.own k d)) = upI i k ρ (m (d :: ds)) := .trans rfl rfl
@[simp] theorem e_upMk : upMk ρ (some (.ok (.val .non, d))) = some (.ok (.own false d) ρ) := .trans rfl rfl
def kMk (c : Nat) (m : FnI) (ds : List D) (ρ : DEnv) : M Cell := upMk ρ (m (.ins c [] [] :: ds))
@[simp] theorem e_mMake {c : Nat} {m : FnI} {f : DEnv → M (List D)} : mMake c m f ρ = bnd (f ρ) (kMk c m) := .trans rfl rfl
@[simp] theorem e_kMk {c : Nat} {m : FnI} : kMk c m ds ρ = upMk ρ (m (.ins c [] [] :: ds)) := .trans rfl rfl
def kMkK2 (c n l : Nat) (m : FnI) (ds es : List D) (ρ : DEnv) : M Cell := if ds.length = n ∧ es.length = l then upMk ρ (m (.ins c [] [] :: (ds ++ es))) else none
def kMkK (c n l : Nat) (m : FnI) (g : DEnv → M (List D)) (ds : List D) (ρ : DEnv) : M Cell := bnd (g ρ) (kMkK2 c n l m ds)
@[simp] theorem e_mMakeK {c n l : Nat} {m : FnI} {f g : DEnv → M (List D)} : mMakeK c n l m f g ρ = bnd (f ρ) (kMkK c n l m g) := .trans rfl rfl
@[simp] theorem e_kMkK {c n l : Nat} {m : FnI} {g : DEnv → M (List D)} : kMkK c n l m g ds ρ = bnd (g ρ) (kMkK2 c n l m ds) := .trans rfl rfl
@[simp] theorem e_kMkK2 {c n l : Nat} {m : FnI} (h : ds.length = n) (h2 : es.length = l) : kMkK2 c n l m ds es ρ = upMk ρ (m (.ins c [] [] :: (ds ++ es))) := if_pos ⟨h, h2⟩
/-! defs -/
@[simp] theorem e_no1 {a : α} : no1 (some (.ok a) : Option (Except (Nat × D) α)) = some (.ok a) := .trans rfl rfl
@[simp] theorem e_no1N : no1 (none : Option (Except (Nat × D) α)) = none := .trans rfl rfl
def kFn : Option O → Option (Except (Nat × D) Cell)
  | some (.rt c _) => some (.ok (clr c))
  | some (.nx _) => some (.ok (.val .non))
  | some (.exc c x) => some (.error (c, x))
  | _ => none
@[simp] theorem e_mFn0 {np n : Nat} {m : MS} (h : ds.length = np) : mFn0 np n m ds = no1 (kFn (m (startE np n ds))) := by
  unfold mFn0 mFn; rw [if_pos h]; rfl
@[simp] theorem e_kFnR : kFn (some (.rt c ρ)) = some (.ok (clr c)) := .trans rfl rfl
@[simp] theorem e_kFnN : kFn (some (.nx ρ)) = some (.ok (.val .non)) := .trans rfl rfl
def kFnI2 (c : Cell) : Option Cell → Option (Except (Nat × D) (Cell × D))
  | some (.own true d) => some (.ok (clr c, d))
  | _ => none
def kFnI : Option O → Option (Except (Nat × D) (Cell × D))
  | some (.rt c ρ) => kFnI2 c ρ[0]?
  | some (.nx ρ) => kFnI2 (.val .non) ρ[0]?
  | some (.exc c x) => some (.error (c, x))
  | _ => none
@[simp] theorem e_mFnI0 {np n : Nat} {m : MS} (h : ds.length + 1 = np) : mFnI0 np n m (d :: ds) = no1 (kFnI (m (startI np n d ds))) := by
  show no1 (if ds.length + 1 = np then _ else none) = _
  rw [if_pos h]
  rfl
@[simp] theorem e_kFnIR : kFnI (some (.rt c ρ)) = kFnI2 c ρ[0]? := .trans rfl rfl
@[simp] theorem e_kFnIN : kFnI (some (.nx ρ)) = kFnI2 (.val .non) ρ[0]? := .trans rfl rfl
@[simp] theorem e_kFnI2 : kFnI2 c (some (.own true d)) = some (.ok (clr c, d)) := .trans rfl rfl
@[simp] theorem e_startE {np n : Nat} : startE np n ds = ds.map .val ++ List.replicate (n - np) .un := .trans rfl rfl
@[simp] theorem e_startI {np n : Nat} : startI np n d ds = .own true d :: (ds.map .val ++ List.replicate (n - np) .un) := .trans rfl rfl
def layC : Cell → Cell
  | .own _ d => .val d
  | c => c
@[simp] theorem e_lay : lay ρ = ρ.map layC := .trans rfl rfl
@[simp] theorem e_layU : layC .un = .un := .trans rfl rfl
@[simp] theorem e_layV : layC (.val d) = .val d := .trans rfl rfl
@[simp] theorem e_layO {b : Bool} : layC (.own b d) = .val d := .trans rfl rfl
def kPeek (ok : α → Bool) (ρ : DEnv) : M α → M α
  | some (.ok d _) => if ok d = true then ret d ρ else none
  | _ => none
@[simp] theorem e_mPeek {ok : α → Bool} {f : DEnv → M α} : mPeek ok f ρ = kPeek ok ρ (f (lay ρ)) := .trans rfl rfl
@[simp] theorem e_kPeek {ok : α → Bool} {a : α} (h : ok a = true) : kPeek ok ρ (some (.ok a ρ')) = some (.ok a ρ) := if_pos h
def oFld (cs : List Nat) (f : Str) (ρ : DEnv) : Option Cell → M D
  | some (.own _ (.ins c ns ds)) => if c ∈ cs then (match lookF ns ds f with
      | some d => ret d ρ
      | none => none) else none
  | _ => none
@[simp] theorem e_ownFld {cs : List Nat} {i : Nat} {f : Str} : ownFld cs i f ρ = oFld cs f ρ ρ[i]? := .trans rfl rfl
@[simp] theorem e_oFld {cs : List Nat} {n : Nat} {f : Str} {b : Bool} {ns : List Str} (h : n ∈ cs) (h2 : lookF ns ds f = some d) : oFld cs f ρ (some (.own b (.ins n ns ds))) = some (.ok d ρ) := by
  unfold oFld; simp only [if_pos h, h2]; rfl
def kIxO2 (ρ : DEnv) : Option D → M D
  | some d => ret d ρ
  | none => none
def oIx (x : D) : Option Cell → Option D
  | some (.own _ (.lst ds)) => match x with
    | .int j => atI ds j
    | _ => none
  | some (.own _ (.dct t ks vs)) => match dlook t ks vs x with
    | some (some d) => some d
    | _ => none
  | _ => none
def kIxO1 (i : Nat) (x : D) (ρ : DEnv) : M D := kIxO2 ρ (oIx x ρ[i]?)
def kIxO (i : Nat) (f : DEnv → M D) (ρ : DEnv) (b : Bool) : M D := if b = true then bnd (f ρ) (kIxO1 i) else none
@[simp] theorem e_mIxO {i : Nat} {f : DEnv → M D} : mIxO i f ρ = kIxO i f ρ (isOwnA ρ i) := .trans rfl rfl
@[simp] theorem e_kIxO {i : Nat} {f : DEnv → M D} : kIxO i f ρ true = bnd (f ρ) (kIxO1 i) := .trans rfl rfl
@[simp] theorem e_kIxO1 {i : Nat} {x : D} : kIxO1 i x ρ = kIxO2 ρ (oIx x ρ[i]?) := .trans rfl rfl
@[simp] theorem e_oIxL {b : Bool} {j : Int} : oIx (.int j) (some (.own b (.lst ds))) = atI ds j := .trans rfl rfl
@[simp] theorem e_kIxO2 : kIxO2 ρ (some d) = some (.ok d ρ) := .trans rfl rfl
@[simp] theorem e_oIxD {b : Bool} {t : Nat} {x : D} {vs : List D} (h : dlook t ds vs x = some (some d)) : oIx x (some (.own b (.dct t ds vs))) = some d := by
  unfold oIx; simp only [h]
def kIO3 (neg : Bool) (ρ : DEnv) : Option (Except (Nat × D) Cell) → M D
  | some (.ok (.val (.bl b))) => ret (.bl (if neg then !b else b)) ρ
  | some (.error (c, x)) => some (.exc c x)
  | _ => none
def kIO2 (c : Nat) (m : Fn) (neg : Bool) (x y : D) (ρ : DEnv) : M D := match y with
  | .ins c' ns ds => if c' = c then (match m [.ins c' ns ds, x] with
      | some (.ok (.val (.bl b))) => ret (.bl (if neg then !b else b)) ρ
      | some (.error (c, x)) => some (.exc c x)
      | _ => none) else none
  | _ => none
def kIO (c : Nat) (m : Fn) (neg : Bool) (g : DEnv → M D) (x : D) (ρ : DEnv) : M D := bnd (g ρ) (kIO2 c m neg x)
@[simp] theorem e_mInOwn {n : Nat} {m : Fn} {neg : Bool} {f g : DEnv → M D} : mInOwn n m neg f g ρ = bnd (f ρ) (kIO n m neg g) := .trans rfl rfl
@[simp] theorem e_kIO {n : Nat} {m : Fn} {neg : Bool} {g : DEnv → M D} {x : D} : kIO n m neg g x ρ = bnd (g ρ) (kIO2 n m neg x) := .trans rfl rfl
@[simp] theorem e_kIO2 {n : Nat} {m : Fn} {neg : Bool} {x : D} {ns : List Str} : kIO2 n m neg x (.ins n ns ds) ρ = kIO3 neg ρ (m [.ins n ns ds, x]) := by
  unfold kIO2 kIO3
  simp only [if_pos]
@[simp] theorem e_kIO3 {b : Bool} : kIO3 false ρ (some (.ok (.val (.bl b)))) = some (.ok (.bl b) ρ) := .trans rfl rfl
@[simp] theorem e_kIO3N {b : Bool} : kIO3 true ρ (some (.ok (.val (.bl b)))) = some (.ok (.bl (!b)) ρ) := .trans rfl rfl
def kIsi (T : String) (d : D) (ρ : DEnv) : M Cell := if isIns d = false then ret (.val (.bl (isiB (kdD d) T))) ρ else none
@[simp] theorem e_mIsi {T : String} {f : DEnv → M D} : mIsi T f ρ = bnd (f ρ) (kIsi T) := .trans rfl rfl
@[simp] theorem e_kIsi {T : String} (h : isIns d = false) : kIsi T d ρ = some (.ok (.val (.bl (isiB (kdD d) T))) ρ) := if_pos h
def kIsi2 (T U : String) (d : D) (ρ : DEnv) : M Cell := if isIns d = false then ret (.val (.bl (isiB (kdD d) T || isiB (kdD d) U))) ρ else none
@[simp] theorem e_mIsi2 {T U : String} {f : DEnv → M D} : mIsi2 T U f ρ = bnd (f ρ) (kIsi2 T U) := .trans rfl rfl
@[simp] theorem e_kIsi2 {T U : String} (h : isIns d = false) : kIsi2 T U d ρ = some (.ok (.val (.bl (isiB (kdD d) T || isiB (kdD d) U))) ρ) := if_pos h
def kIsC (n : Nat) (d : D) (ρ : DEnv) : M Cell := match d with
  | .ins c' _ _ => if c' = n then ret (.val (.bl true)) ρ else none
  | .scr _ => none
  | _ => ret (.val (.bl false)) ρ
@[simp] theorem e_mIsiC {n : Nat} {f : DEnv → M D} : mIsiC n f ρ = bnd (f ρ) (kIsC n) := .trans rfl rfl
@[simp] theorem e_kIsC {n : Nat} {ns : List Str} : kIsC n (.ins n ns ds) ρ = some (.ok (.val (.bl true)) ρ) := if_pos rfl
def kInW (ds : List D) (e : D) (ρ : DEnv) : M Cell := if isF e = true then ret (.val (.bl (ds.any fun d => eqF d e))) ρ else none
@[simp] theorem e_mInW {f : DEnv → M D} : mInW ds f ρ = bnd (f ρ) (kInW ds) := .trans rfl rfl
@[simp] theorem e_kInW (h : isF e = true) : kInW ds e ρ = some (.ok (.val (.bl (ds.any fun d => eqF d e))) ρ) := if_pos h
end
end Dm

namespace Dm
open PySem PySem.Spec PyProof.Rows L2
/-! ### mirrors of the operators, on data of known kind -/
theorem char_inj {a b : Char} (h : a.toNat = b.toNat) : a = b := Char.ext (UInt32.toNat_inj.mp h)
@[simp] theorem ofString_inj {a b : String} : Str.ofString a = Str.ofString b ↔ a = b := by
  refine ⟨fun h => ?_, fun h => by rw [h]⟩
  rw [Str.ofString_eq_toList, Str.ofString_eq_toList] at h
  have h1 : (a.toList.map Char.toNat).toArray = (b.toList.map Char.toNat).toArray := by injection h
  have h2 : a.toList.map Char.toNat = b.toList.map Char.toNat := by simpa using h1
  exact String.toList_inj.mp (List.map_inj_right (fun _ _ e => char_inj e) |>.mp h2)
@[simp] theorem ofString_beq {a b : String} : (Str.ofString a == Str.ofString b) = decide (a = b) := by
  by_cases h : a = b
  · subst h; simp
  · have : Str.ofString a ≠ Str.ofString b := fun e => h (ofString_inj.mp e)
    rw [beq_eq_false_iff_ne.mpr this, decide_eq_false h]
section
variable {i j : Int} {a b : Str} {p q : Bool} {xs ys ds : List D} {d e : D}
@[simp] theorem e_cI : cI i = some (.val (.int i)) := .trans rfl rfl
@[simp] theorem e_cB : cB p = some (.val (.bl p)) := .trans rfl rfl
@[simp] theorem e_cS : cS a = some (.val (.str a)) := .trans rfl rfl
@[simp] theorem g_addI : gAdd (.int i) (.int j) = some (.val (.int (i + j))) := .trans rfl rfl
@[simp] theorem g_addS (h : a.length + b.length ≤ 1000000) : gAdd (.str a) (.str b) = some (.val (.str (a ++ b))) := if_pos h
@[simp] theorem g_addL (h : xs.length + ys.length ≤ 1000000) : gAdd (.lst xs) (.lst ys) = some (.own false (.lst (xs ++ ys))) := if_pos h
@[simp] theorem g_addT (h : xs.length + ys.length ≤ 1000000) : gAdd (.tup xs) (.tup ys) = some (.val (.tup (xs ++ ys))) := if_pos h
@[simp] theorem g_minus : gMinus (.int i) (.int j) = some (.val (.int (i - j))) := .trans rfl rfl
@[simp] theorem g_mod (h : 0 < j) : gMod (.int i) (.int j) = some (.val (.int (i % j))) := if_pos h
@[simp] theorem g_div (h : 0 < j) (h2 : j < 1073741824) : gDiv (.int i) (.int j) = some (.val (.int (i / j))) := if_pos ⟨h, h2⟩
@[simp] theorem g_pow (h : 0 ≤ j) (h2 : j ≤ 1000000) (h3 : i.natAbs < 2 ^ 64) : gPow (.int i) (.int j) = some (.val (.int (i ^ j.toNat))) := if_pos ⟨h, h2, h3⟩
theorem g_mul1 (h : -(2 ^ 64) < i) (h2 : i < 2 ^ 64) : gMul (.int i) (.int j) = some (.val (.int (i * j))) := if_pos (.inl ⟨h, h2⟩)
theorem g_mul2 (h : -(2 ^ 64) < j) (h2 : j < 2 ^ 64) : gMul (.int i) (.int j) = some (.val (.int (i * j))) := if_pos (.inr ⟨h, h2⟩)
theorem repN_one {α : Type} {d : α} : ∀ n : Nat, repN n [d] = List.replicate n d
  | 0 => rfl
  | n + 1 => by
    have := repN_one (d := d) n
    unfold repN at this ⊢
    rw [List.replicate_succ, List.flatten_cons, this, List.replicate_succ]
    rfl
theorem g_mulT1 {n : Nat} (h1 : 1 ≤ n) (h2 : n ≤ 1000) : gMul (.tup [d]) (.int n) = some (.val (.tup (List.replicate n d))) := by
  show (if (n : Int) = 1 then _ else if (2 ≤ (n : Int) ∧ (n : Int) ≤ 1000) ∧ 1 ≤ 1000 ∧ 1 ≠ 0 then some (Cell.val (.tup (repN (n : Int).toNat [d]))) else none) = _
  by_cases e : n = 1
  · subst e; rfl
  · rw [if_neg (by omega), if_pos ⟨⟨by omega, by omega⟩, by decide, by decide⟩, repN_one]
    rfl
@[simp] theorem g_mulL1 : gMul (.lst [d]) (.int 1) = some (.own false (.lst [d])) := .trans rfl rfl
@[simp] theorem g_mulL0 : gMul (.lst [d]) (.int 0) = some (.own false (.lst [])) := .trans rfl rfl
@[simp] theorem g_neg : gNeg (.int i) = some (.val (.int (-i))) := .trans rfl rfl
@[simp] theorem g_ltI : gLtD (.int i) (.int j) = some (.val (.bl (decide (i < j)))) := .trans rfl rfl
@[simp] theorem g_ltS : gLtD (.str a) (.str b) = some (.val (.bl (decide (a.cps.toList < b.cps.toList)))) := .trans rfl rfl
@[simp] theorem g_le : gLe (.int i) (.int j) = some (.val (.bl (decide (i ≤ j)))) := .trans rfl rfl
@[simp] theorem g_gt : gGt (.int i) (.int j) = some (.val (.bl (decide (j < i)))) := .trans rfl rfl
@[simp] theorem g_ge : gGe (.int i) (.int j) = some (.val (.bl (decide (j ≤ i)))) := .trans rfl rfl
@[simp] theorem g_leS : gLe (.str a) (.str b) = some (.val (.bl (!decide (b.cps.toList < a.cps.toList)))) := .trans rfl rfl
@[simp] theorem g_gtS : gGt (.str a) (.str b) = some (.val (.bl (decide (b.cps.toList < a.cps.toList)))) := .trans rfl rfl
@[simp] theorem g_geS : gGe (.str a) (.str b) = some (.val (.bl (!decide (a.cps.toList < b.cps.toList)))) := .trans rfl rfl
@[simp] theorem eq_ii : eqD (.int i) (.int j) = some (i == j) := .trans rfl rfl
@[simp] theorem eq_bb : eqD (.bl p) (.bl q) = some (p == q) := .trans rfl rfl
@[simp] theorem eq_ss : eqD (.str a) (.str b) = some (a == b) := .trans rfl rfl
@[simp] theorem eq_nn : eqD .non .non = some true := .trans rfl rfl
@[simp] theorem eq_ni : eqD .non (.int i) = some false := .trans rfl rfl
@[simp] theorem eq_in : eqD (.int i) .non = some false := .trans rfl rfl
@[simp] theorem eq_ns : eqD .non (.str a) = some false := .trans rfl rfl
@[simp] theorem eq_sn : eqD (.str a) .non = some false := .trans rfl rfl
@[simp] theorem eq_is : eqD (.int i) (.str a) = some false := .trans rfl rfl
@[simp] theorem eq_si : eqD (.str a) (.int i) = some false := .trans rfl rfl
@[simp] theorem g_eq {r : Bool} (h : eqD d e = some r) : gEq d e = some (.val (.bl r)) := by unfold gEq; rw [h]; rfl
@[simp] theorem g_ne {r : Bool} (h : eqD d e = some r) : gNe d e = some (.val (.bl (!r))) := by unfold gNe; rw [h]; rfl
@[simp] theorem g_eqI : gEq (.int i) (.int j) = some (.val (.bl (i == j))) := .trans rfl rfl
@[simp] theorem g_eqB : gEq (.bl p) (.bl q) = some (.val (.bl (p == q))) := .trans rfl rfl
@[simp] theorem g_eqS : gEq (.str a) (.str b) = some (.val (.bl (a == b))) := .trans rfl rfl
@[simp] theorem g_neI : gNe (.int i) (.int j) = some (.val (.bl (!(i == j)))) := .trans rfl rfl
@[simp] theorem g_neB : gNe (.bl p) (.bl q) = some (.val (.bl (!(p == q)))) := .trans rfl rfl
@[simp] theorem g_neS : gNe (.str a) (.str b) = some (.val (.bl (!(a == b)))) := .trans rfl rfl
@[simp] theorem g_isN : gIsN d .non = some (.val (.bl (isNonD d))) := .trans rfl rfl
@[simp] theorem g_notN : gNotN d .non = some (.val (.bl (!isNonD d))) := .trans rfl rfl
@[simp] theorem isNon_n : isNonD .non = true := .trans rfl rfl
@[simp] theorem isNon_i : isNonD (.int i) = false := .trans rfl rfl
@[simp] theorem isNon_s : isNonD (.str a) = false := .trans rfl rfl
@[simp] theorem isNon_t : isNonD (.tup xs) = false := .trans rfl rfl
@[simp] theorem isNon_l : isNonD (.lst xs) = false := .trans rfl rfl
@[simp] theorem isNon_b : isNonD (.bl p) = false := .trans rfl rfl
/-! indices -/
theorem at_nat {α : Type} {xs : List α} (n : Nat) : atI xs (n : Int) = xs[n]? := by
  unfold atI ixN
  rw [if_pos (by omega)]
  by_cases h : n < xs.length
  · rw [if_pos (by omega)]; rfl
  · rw [if_neg (by omega), List.getElem?_eq_none (by omega)]; rfl
@[simp] theorem at_zero {α : Type} {xs : List α} : atI xs 0 = xs[0]? := at_nat 0
@[simp] theorem at_lit {α : Type} {xs : List α} {n : Nat} : atI xs (no_index (OfNat.ofNat n : Int)) = xs[(OfNat.ofNat n : Nat)]? := at_nat n
theorem at_some {α : Type} {xs : List α} {i : Int} (h : 0 ≤ i) : atI xs i = xs[i.toNat]? := by
  have := at_nat (xs := xs) i.toNat
  rwa [Int.toNat_of_nonneg h] at this
@[simp] theorem g_ixL : gIx (.lst xs) (.int i) = (atI xs i).map .val := .trans rfl rfl
@[simp] theorem g_ixT : gIx (.tup xs) (.int i) = (atI xs i).map .val := .trans rfl rfl
@[simp] theorem g_ixScr {ns : List Int} : gIx (.scr ns) (.int i) = (atI ns i).map fun z => .val (.int z) := .trans rfl rfl
@[simp] theorem g_ixD {t : Nat} {ks vs : List D} (h : dlook t ks vs d = some (some e)) : gIx (.dct t ks vs) d = some (.val e) := by
  unfold gIx
  simp only [h]
@[simp] theorem key1_i : key1 (.int i) = some (.inl i) := .trans rfl rfl
@[simp] theorem key1_s : key1 (.str a) = some (.inr a) := .trans rfl rfl
@[simp] theorem dlook_i {ks vs : List D} : dlook 0 ks vs (.int i) = some (dlk key1 ks vs (.inl i)) := .trans rfl rfl
@[simp] theorem dlook_s {ks vs : List D} : dlook 0 ks vs (.str a) = some (dlk key1 ks vs (.inr a)) := .trans rfl rfl
@[simp] theorem dlk_nil {κ : Type} [DecidableEq κ] {key : D → Option κ} {vs : List D} {x : κ} : dlk key [] vs x = none := by cases vs <;> rfl
@[simp] theorem dlk_cons {κ : Type} [DecidableEq κ] {key : D → Option κ} {k v : D} {ks vs : List D} {x : κ} : dlk key (k :: ks) (v :: vs) x = if key k = some x then some v else dlk key ks vs x := .trans rfl rfl
@[simp] theorem dput_i {ks vs : List D} : dput 0 ks vs (.int i) e = some (dputG key1 (.inl i) ks vs (.int i) e) := .trans rfl rfl
@[simp] theorem dput_s {ks vs : List D} : dput 0 ks vs (.str a) e = some (dputG key1 (.inr a) ks vs (.str a) e) := .trans rfl rfl
@[simp] theorem dhas_nil {κ : Type} [DecidableEq κ] {key : D → Option κ} {k : κ} : dhas key k [] = false := .trans rfl rfl
@[simp] theorem dhas_cons {κ : Type} [DecidableEq κ] {key : D → Option κ} {k : κ} {x : D} {ks : List D} : dhas key k (x :: ks) = (decide (key x = some k) || dhas key k ks) := .trans rfl rfl
@[simp] theorem dputG_new {κ : Type} [DecidableEq κ] {key : D → Option κ} {k : κ} {ks vs : List D} {x v : D} (h : dhas key k ks = false) : dputG key k ks vs x v = (ks ++ [x], vs ++ [v]) := by
  unfold dputG; rw [if_neg (by rw [h]; exact Bool.false_ne_true)]
@[simp] theorem dputG_old {κ : Type} [DecidableEq κ] {key : D → Option κ} {k : κ} {ks vs : List D} {x v : D} (h : dhas key k ks = true) : dputG key k ks vs x v = (ks, dputA key k v ks vs) := if_pos h
@[simp] theorem dputA_cons {κ : Type} [DecidableEq κ] {key : D → Option κ} {k : κ} {v x y : D} {ks vs : List D} : dputA key k v (x :: ks) (y :: vs) = (if key x = some k then v else y) :: dputA key k v ks vs := .trans rfl rfl
@[simp] theorem dputA_nil {κ : Type} [DecidableEq κ] {key : D → Option κ} {k : κ} {v : D} {vs : List D} : dputA key k v [] vs = [] := .trans rfl rfl
@[simp] theorem dmerge_nil {ks vs : List D} : dmerge ks vs [] = some (ks, vs) := .trans rfl rfl
@[simp] theorem dmerge_cons {ks vs : List D} {x v : D} {r : List (D × D)} {p : List D × List D} (h : dput 0 ks vs x v = some p) : dmerge ks vs ((x, v) :: r) = dmerge p.1 p.2 r := by
  show (dput 0 ks vs x v).bind _ = _
  rw [h]; rfl
/-! attributes -/
@[simp] theorem g_fld {cs : List Nat} {f : Str} {c : Nat} {ns : List Str} (h : c ∈ cs) (h2 : lookF ns ds f = some e) : gFld cs f (.ins c ns ds) = some (.val e) := by
  unfold gFld; simp only [if_pos h, h2]; rfl
@[simp] theorem lookF_cons {n f : Str} {ns : List Str} : lookF (n :: ns) (d :: ds) f = if f = n then some d else lookF ns ds f := .trans rfl rfl
@[simp] theorem putF_nil {f : Str} {vs : List D} : putFD f d [] vs = ([f], [d]) := .trans rfl rfl
@[simp] theorem putF_cons {n f : Str} {ns : List Str} {x : D} : putFD f d (n :: ns) (x :: ds) = if n = f then (n :: ns, d :: ds) else (n :: (putFD f d ns ds).1, x :: (putFD f d ns ds).2) := .trans rfl rfl
/-! builtins -/
@[simp] theorem g_lenL : gLen [.lst xs] = some (.val (.int xs.length)) := .trans rfl rfl
@[simp] theorem g_lenT : gLen [.tup xs] = some (.val (.int xs.length)) := .trans rfl rfl
@[simp] theorem g_lenScr {ns : List Int} : gLen [.scr ns] = some (.val (.int ns.length)) := .trans rfl rfl
@[simp] theorem g_lenD {t : Nat} {ks vs : List D} : gLen [.dct t ks vs] = some (.val (.int ks.length)) := .trans rfl rfl
@[simp] theorem g_lenS (h : a.length ≤ 1000000) : gLen [.str a] = some (.val (.int a.length)) := if_pos h
@[simp] theorem g_intI : gInt [.int i] = some (.val (.int i)) := .trans rfl rfl
@[simp] theorem g_intB : gInt [.bl p] = some (.val (.int (if p then 1 else 0))) := .trans rfl rfl
@[simp] theorem g_abs : gAbs [.int i] = some (.val (.int (if i < 0 then -i else i))) := .trans rfl rfl
@[simp] theorem g_listL : gList [.lst xs] = some (.own false (.lst xs)) := .trans rfl rfl
@[simp] theorem g_listT : gList [.tup xs] = some (.own false (.lst xs)) := .trans rfl rfl
@[simp] theorem g_tupL : gTuple [.lst xs] = some (.val (.tup xs)) := .trans rfl rfl
@[simp] theorem g_tupT : gTuple [.tup xs] = some (.val (.tup xs)) := .trans rfl rfl
@[simp] theorem g_max2 : gMax [.int i, .int j] = some (.val (.int (if j > i then j else i))) := .trans rfl rfl
@[simp] theorem g_min2 : gMin [.int i, .int j] = some (.val (.int (if j < i then j else i))) := .trans rfl rfl
@[simp] theorem g_strS : gStr [.str a] = some (.val (.str a)) := .trans rfl rfl
theorem boolsD_map : ∀ (bs : List Bool), boolsD (bs.map .bl) = some bs
  | [] => rfl
  | b :: bs => by simp only [List.map_cons, boolsD, boolsD_map bs]; rfl
theorem intsD_map : ∀ (ns : List Int), intsD (ns.map .int) = some ns
  | [] => rfl
  | b :: bs => by simp only [List.map_cons, intsD, intsD_map bs]; rfl
theorem strsD_map : ∀ (ns : List Str), strsD (ns.map .str) = some ns
  | [] => rfl
  | b :: bs => by simp only [List.map_cons, strsD, strsD_map bs]; rfl
@[simp] theorem g_all {bs : List Bool} : gAll [.lst (bs.map .bl)] = some (.val (.bl (bs.all id))) := by
  show (boolsD _).bind _ = _
  rw [boolsD_map]; rfl
@[simp] theorem g_any {bs : List Bool} : gAny [.lst (bs.map .bl)] = some (.val (.bl (bs.any id))) := by
  show (boolsD _).bind _ = _
  rw [boolsD_map]; rfl
@[simp] theorem g_sum {ns : List Int} : gSum [.lst (ns.map .int)] = some (.val (.int ns.sum)) := by
  show (intsD _).bind _ = _
  rw [intsD_map]; rfl
/-! slices -/
@[simp] theorem g_slL {lo hi : Option Int} : gSl lo hi (.lst xs) = some (.own false (.lst (cutG xs lo hi))) := .trans rfl rfl
@[simp] theorem g_slT {lo hi : Option Int} : gSl lo hi (.tup xs) = some (.val (.tup (cutG xs lo hi))) := .trans rfl rfl
@[simp] theorem g_slScr {lo hi : Option Int} {ns : List Int} : gSl lo hi (.scr ns) = some (.own false (.lst (cutG (ns.map D.int) lo hi))) := .trans rfl rfl
theorem cut_to {α : Type} {xs : List α} {k : Int} (h : 0 ≤ k) : cutG xs none (some k) = xs.take k.toNat := by
  unfold cutG HT.sIx
  simp only [if_neg (show ¬ k < 0 by omega), List.drop_zero, Nat.sub_zero]
  exact List.take_eq_take_min.symm
theorem cut_from {α : Type} {xs : List α} {k : Int} (h : 0 ≤ k) : cutG xs (some k) none = xs.drop k.toNat := by
  unfold cutG HT.sIx
  simp only [if_neg (show ¬ k < 0 by omega)]
  by_cases hk : k.toNat ≤ xs.length
  · rw [Nat.min_eq_left hk]
    exact List.take_of_length_le (by rw [List.length_drop]; omega)
  · rw [Nat.min_eq_right (by omega), List.drop_eq_nil_of_le (Nat.le_refl _), List.drop_eq_nil_of_le (by omega)]
    simp
@[simp] theorem cut_toL {α : Type} {xs : List α} {n : Nat} : cutG xs none (some (no_index (OfNat.ofNat n))) = xs.take (OfNat.ofNat n) := cut_to (by exact Int.natCast_nonneg n)
@[simp] theorem cut_fromL {α : Type} {xs : List α} {n : Nat} : cutG xs (some (no_index (OfNat.ofNat n))) none = xs.drop (OfNat.ofNat n) := cut_from (by exact Int.natCast_nonneg n)
@[simp] theorem cut_toN {α : Type} {xs : List α} {n : Nat} : cutG xs none (some (n : Int)) = xs.take n := cut_to (Int.natCast_nonneg n)
@[simp] theorem cut_fromN {α : Type} {xs : List α} {n : Nat} : cutG xs (some (n : Int)) none = xs.drop n := cut_from (Int.natCast_nonneg n)
@[simp] theorem cut_fromN1 {α : Type} {xs : List α} {n : Nat} : cutG xs (some ((n : Int) + 1)) none = xs.drop (n + 1) := cut_from (by omega)
@[simp] theorem at_natS {α : Type} {xs : List α} (n : Nat) : atI xs (n : Int) = xs[n]? := at_nat n
/-! ### what is chosen by a truth that isn't known -/
section
variable {α β : Type} {c : Prop} [Decidable c] {ρ ρ' : DEnv}
@[simp] theorem i_kIf {f g : DEnv → M α} {b : Bool} : kIf f g b ρ = if b = true then f ρ else g ρ := .trans rfl rfl
@[simp] theorem i_kAnd {g : DEnv → M Bool} {b : Bool} : kAnd g b ρ = if b = true then g ρ else some (.ok false ρ) := .trans rfl rfl
@[simp] theorem i_kOr {g : DEnv → M Bool} {b : Bool} : kOr g b ρ = if b = true then some (.ok true ρ) else g ρ := .trans rfl rfl
@[simp] theorem i_kAndV {g : DEnv → M D} {b : Bool} : kAndV g b ρ = if b = true then g ρ else some (.ok (.bl false) ρ) := .trans rfl rfl
@[simp] theorem i_kOrV {g : DEnv → M D} {b : Bool} : kOrV g b ρ = if b = true then some (.ok (.bl true) ρ) else g ρ := .trans rfl rfl
@[simp] theorem i_kSIf {x y : MS} {b : Bool} : kSIf x y b ρ = if b = true then x ρ else y ρ := .trans rfl rfl
@[simp] theorem i_ok {a a' : α} : (if c then (some (.ok a ρ) : M α) else some (.ok a' ρ)) = some (.ok (if c then a else a') ρ) := by split <;> rfl
@[simp] theorem i_nx {a a' : DEnv} : (if c then some (O.nx a) else some (O.nx a')) = some (.nx (if c then a else a')) := by split <;> rfl
@[simp] theorem i_kSq {b : MS} {x y : Option O} : kSq b (if c then x else y) = if c then kSq b x else kSq b y := by split <;> rfl
@[simp] theorem i_bindS {x y : M α} {k : α → DEnv → Option O} : bindS (if c then x else y) k = if c then bindS x k else bindS y k := by split <;> rfl
@[simp] theorem i_kFn {x y : Option O} : kFn (if c then x else y) = if c then kFn x else kFn y := by split <;> rfl
@[simp] theorem i_kFnI {x y : Option O} : kFnI (if c then x else y) = if c then kFnI x else kFnI y := by split <;> rfl
@[simp] theorem i_no1 {x y : Option (Except (Nat × D) α)} : no1 (if c then x else y) = if c then no1 x else no1 y := by split <;> rfl
@[simp] theorem i_okC {a a' : α} : (if c then (some (.ok a) : Option (Except (Nat × D) α)) else some (.ok a')) = some (.ok (if c then a else a')) := by split <;> rfl
@[simp] theorem i_val {a a' : D} : (if c then Cell.val a else Cell.val a') = .val (if c then a else a') := by split <;> rfl
@[simp] theorem i_int {a a' : Int} : (if c then D.int a else D.int a') = .int (if c then a else a') := by split <;> rfl
@[simp] theorem i_bl {a a' : Bool} : (if c then D.bl a else D.bl a') = .bl (if c then a else a') := by split <;> rfl
@[simp] theorem i_str {a a' : Str} : (if c then D.str a else D.str a') = .str (if c then a else a') := by split <;> rfl
@[simp] theorem i_tup {a a' : List D} : (if c then D.tup a else D.tup a') = .tup (if c then a else a') := by split <;> rfl
end
/-! ### loops over data of one kind -/
/-- a comprehension whose test and item leave the slots as they are -/
theorem lc_pure {α : Type} {vs : List Nat} {tf : D → DEnv → Option DEnv} {tt : DEnv → M Bool} {te : DEnv → M D} {enc : α → D} (p : α → Bool) (f : α → D) {ρ : DEnv} : ∀ (xs : List α) (acc : List D),
    (∀ x ∈ xs, ∃ ρ1, tf (enc x) (wipeC ρ vs) = some ρ1 ∧ wipeC ρ1 vs = ρ ∧ tt ρ1 = some (.ok (p x) ρ1) ∧ (p x = true → te ρ1 = some (.ok (f x) ρ1))) → acc.length + xs.length ≤ 1000000 →
    lcGo vs tf tt te (xs.map enc) ρ acc = some (acc ++ (xs.filter p).map f, ρ)
  | [], acc, _, _ => by simp [lcGo]
  | x :: xs, acc, h, hl => by
    obtain ⟨ρ1, h1, h2, h3, h4⟩ := h x List.mem_cons_self
    have ih := fun acc => lc_pure p f xs acc (fun y hy => h y (List.mem_cons_of_mem _ hy))
    rw [List.length_cons] at hl
    simp only [List.map_cons, lcGo, h1, h3]
    cases hp : p x with
    | true =>
      have h5 := h4 hp
      simp only [h5]
      rw [if_pos (show acc.length < big by rw [e_big]; omega), h2, ih _ (by simp; omega), List.filter_cons_of_pos hp]
      simp
    | false =>
      simp only
      rw [h2, ih _ (by omega), List.filter_cons_of_neg (by rw [hp]; exact Bool.false_ne_true)]
/-- one without a test -/
theorem lc_map {α : Type} {vs : List Nat} {tf : D → DEnv → Option DEnv} {te : DEnv → M D} {enc : α → D} (f : α → D) {ρ : DEnv} {xs : List α}
    (h : ∀ x ∈ xs, ∃ ρ1, tf (enc x) (wipeC ρ vs) = some ρ1 ∧ wipeC ρ1 vs = ρ ∧ te ρ1 = some (.ok (f x) ρ1)) (hl : xs.length ≤ 1000000) :
    lcGo vs tf mYes te (xs.map enc) ρ [] = some (xs.map f, ρ) := by
  rw [lc_pure (fun _ => true) f xs [] (fun x hx => by
    obtain ⟨ρ1, h1, h2, h3⟩ := h x hx
    exact ⟨ρ1, h1, h2, rfl, fun _ => h3⟩) (by simpa using hl)]
  rw [List.filter_eq_self.mpr (fun _ _ => rfl)]
  rfl
/-- a slot that may be set -/
def pl : Cell → Prop
  | .own true _ => False
  | _ => True
theorem e_sCp {i : Nat} {c c0 : Cell} {ρ : DEnv} (h : pl c0) : sC i c ρ (some c0) = some (ρ.set i c) := by
  cases c0 with
  | un => rfl
  | val d => rfl
  | own b d => cases b <;> first | rfl | exact h.elim
@[simp] theorem pl_val : pl (.val d) := trivial
@[simp] theorem pl_un : pl .un := trivial
@[simp] theorem pl_own : pl (.own false d) := trivial
/-- a loop that comes to its end -/
theorem for_inv {α : Type} {tf : D → DEnv → Option DEnv} {body : MS} {enc : α → D} (Inv : List α → DEnv → Prop)
    (step : ∀ x xs ρ, Inv (x :: xs) ρ → ∃ ρ1, tf (enc x) ρ = some ρ1 ∧ ∃ ρ2, (body ρ1 = some (.nx ρ2) ∨ body ρ1 = some (.ct ρ2)) ∧ Inv xs ρ2) :
    ∀ xs ρ, Inv xs ρ → ∃ ρ', forGo tf body (xs.map enc) ρ = some (.nx ρ') ∧ Inv [] ρ'
  | [], ρ, h => ⟨ρ, rfl, h⟩
  | x :: xs, ρ, h => by
    obtain ⟨ρ1, h1, ρ2, h2, h3⟩ := step x xs ρ h
    obtain ⟨ρ', g1, g2⟩ := for_inv Inv step xs ρ2 h3
    refine ⟨ρ', ?_, g2⟩
    rw [List.map_cons, e_for1, h1, e_kFor1]
    rcases h2 with h2 | h2 <;> rw [h2] <;> exact g1
/-- a loop that may end in a return or a break -/
theorem for_out {α : Type} {tf : D → DEnv → Option DEnv} {body : MS} {enc : α → D} (Inv : List α → DEnv → Prop) (Out : O → Prop) (h0 : ∀ ρ, Inv [] ρ → Out (.nx ρ))
    (step : ∀ x xs ρ, Inv (x :: xs) ρ → ∃ ρ1, tf (enc x) ρ = some ρ1 ∧ ((∃ ρ2, (body ρ1 = some (.nx ρ2) ∨ body ρ1 = some (.ct ρ2)) ∧ Inv xs ρ2) ∨ (∃ ρ2, body ρ1 = some (.bk ρ2) ∧ Out (.nx ρ2)) ∨ ∃ c ρ2, body ρ1 = some (.rt c ρ2) ∧ Out (.rt c ρ2))) :
    ∀ xs ρ, Inv xs ρ → ∃ o, forGo tf body (xs.map enc) ρ = some o ∧ Out o
  | [], ρ, h => ⟨_, rfl, h0 ρ h⟩
  | x :: xs, ρ, h => by
    obtain ⟨ρ1, h1, ⟨ρ2, h2, h3⟩ | ⟨ρ2, h2, h3⟩ | ⟨c, ρ2, h2, h3⟩⟩ := step x xs ρ h
    · obtain ⟨ρ', g1, g2⟩ := for_out Inv Out h0 step xs ρ2 h3
      refine ⟨ρ', ?_, g2⟩
      rw [List.map_cons, e_for1, h1, e_kFor1]
      rcases h2 with h2 | h2 <;> rw [h2] <;> exact g1
    · refine ⟨_, ?_, h3⟩
      rw [List.map_cons, e_for1, h1, e_kFor1, h2]; rfl
    · refine ⟨_, ?_, h3⟩
      rw [List.map_cons, e_for1, h1, e_kFor1, h2]; rfl
/-- a while that comes to its end: the measure falls -/
theorem wh_inv {t : DEnv → M Bool} {body : MS} (Inv : Nat → DEnv → Prop) (Post : DEnv → Prop)
    (step : ∀ m ρ, Inv m ρ → (∃ ρ1, t ρ = some (.ok false ρ1) ∧ Post ρ1) ∨ ∃ ρ1, t ρ = some (.ok true ρ1) ∧ ∃ ρ2 m', (body ρ1 = some (.nx ρ2) ∨ body ρ1 = some (.ct ρ2)) ∧ m' < m ∧ Inv m' ρ2) :
    ∀ n m ρ, m < n → Inv m ρ → ∃ ρ', whGo t body n ρ = some (.nx ρ') ∧ Post ρ'
  | 0, m, ρ, hn, h => absurd hn (Nat.not_lt_zero _)
  | n + 1, m, ρ, hn, h => by
    rcases step m ρ h with ⟨ρ1, h1, h2⟩ | ⟨ρ1, h1, ρ2, m', h2, h3, h4⟩
    · exact ⟨ρ1, by simp only [whGo, h1], h2⟩
    · obtain ⟨ρ', g1, g2⟩ := wh_inv Inv Post step n m' ρ2 (by omega) h4
      refine ⟨ρ', ?_, g2⟩
      rcases h2 with h2 | h2 <;> simp only [whGo, h1, h2] <;> exact g1
end
end Dm

namespace Dm
open PySem PySem.Spec PyProof.Rows L2
/-! ### == of nested data -/
/-- data that == goes through, n deep at most -/
def okD : Nat → D → Bool
  | _, .non => true
  | _, .bl _ => true
  | _, .int _ => true
  | _, .str s => PyData.strOk s
  | n + 1, .tup ds => ds.all (okD n)
  | n + 1, .lst ds => ds.all (okD n)
  | _, _ => false
theorem toPys_of {n : Nat} (ih : ∀ d, okD n d = true → ∃ p, toPy d = some p ∧ p.canLay0 = true ∧ p.depth ≤ n) : ∀ ds : List D, ds.all (okD n) = true → ∃ ps, toPys ds = some ps ∧ PyData.canLayAll0 ps = true ∧ PyData.depthAll ps ≤ n
  | [], _ => ⟨[], rfl, by simp [PyData.canLayAll0], by simp [PyData.depthAll]⟩
  | d :: ds, h => by
    rw [List.all_cons, Bool.and_eq_true] at h
    obtain ⟨p, h1, h2, h3⟩ := ih d h.1
    obtain ⟨ps, g1, g2, g3⟩ := toPys_of ih ds h.2
    exact ⟨p :: ps, by simp [toPys, h1, g1], by simp [PyData.canLayAll0, h2, g2], by simp only [PyData.depthAll]; omega⟩
theorem toPy_of : ∀ (n : Nat) (d : D), okD n d = true → ∃ p, toPy d = some p ∧ p.canLay0 = true ∧ p.depth ≤ n
  | n, .non, _ => ⟨.none, rfl, by simp [PyData.canLay0], by simp [PyData.depth]⟩
  | n, .bl b, _ => ⟨.bool b, rfl, by simp [PyData.canLay0], by simp [PyData.depth]⟩
  | n, .int b, _ => ⟨.int b, rfl, by simp [PyData.canLay0], by simp [PyData.depth]⟩
  | n, .str b, h => ⟨.str b, rfl, by
    have h : PyData.strOk b = true := by cases n <;> exact h
    simp [PyData.canLay0, h], by simp [PyData.depth]⟩
  | 0, .tup ds, h => by simp [okD] at h
  | 0, .lst ds, h => by simp [okD] at h
  | n + 1, .tup ds, h => by
    obtain ⟨ps, g1, g2, g3⟩ := toPys_of (toPy_of n) ds h
    exact ⟨.tuple ps, by simp [toPy, g1], by simp [PyData.canLay0, g2], by simp only [PyData.depth]; omega⟩
  | n + 1, .lst ds, h => by
    obtain ⟨ps, g1, g2, g3⟩ := toPys_of (toPy_of n) ds h
    exact ⟨.list ps, by simp [toPy, g1], by simp [PyData.canLay0, g2], by simp only [PyData.depth]; omega⟩
  | n, .dct _ _ _, h => by cases n <;> simp [okD] at h
  | n, .ins _ _ _, h => by cases n <;> simp [okD] at h
  | n, .scr _, h => by cases n <;> simp [okD] at h
theorem shaped_of {p : PyData} (h : p.canLay0 = true) (h2 : p.depth ≤ 64) : SeqAt.shaped p = true := by
  unfold SeqAt.shaped
  rw [h, decide_eq_true h2]; rfl
theorem eqD_lst {xs ys : List D} (h : okD 64 (.lst xs) = true) (h2 : okD 64 (.lst ys) = true) : ∃ ps qs, toPys xs = some ps ∧ toPys ys = some qs ∧ eqD (.lst xs) (.lst ys) = some (PyData.eqvAll ps qs) := by
  obtain ⟨p, a1, a2, a3⟩ := toPy_of 64 _ h
  obtain ⟨q, b1, b2, b3⟩ := toPy_of 64 _ h2
  simp only [toPy] at a1 b1
  cases e1 : toPys xs with
  | none => rw [e1] at a1; cases a1
  | some ps =>
  cases e2 : toPys ys with
  | none => rw [e2] at b1; cases b1
  | some qs =>
  rw [e1] at a1; rw [e2] at b1
  cases a1; cases b1
  refine ⟨ps, qs, rfl, rfl, ?_⟩
  show (match toPy (.lst xs), toPy (.lst ys) with | some p, some q => if SeqAt.shaped p = true ∧ SeqAt.shaped q = true then some (PyData.eqv p q) else none | _, _ => none) = _
  simp only [toPy, e1, e2, Option.map_some]
  rw [if_pos ⟨shaped_of a2 a3, shaped_of b2 b3⟩]
  simp only [PyData.eqv]
theorem eqL_refl {xs : List D} (h : okD 64 (.lst xs) = true) : eqD (.lst xs) (.lst xs) = some true := by
  obtain ⟨ps, qs, h1, h2, h3⟩ := eqD_lst h h
  rw [h1] at h2
  cases h2
  rw [h3]
  obtain ⟨p, a1, a2, a3⟩ := toPy_of 64 _ h
  simp only [toPy, h1, Option.map_some] at a1
  cases a1
  have := PySem.SeqAt.eqv_refl (.list ps) a2
  simp only [PyData.eqv] at this
  rw [this]
theorem eqL_nil {xs : List D} (h : okD 64 (.lst xs) = true) : eqD (.lst xs) (.lst []) = some xs.isEmpty := by
  obtain ⟨ps, qs, h1, h2, h3⟩ := eqD_lst h (show okD 64 (.lst []) = true from rfl)
  rw [h3]
  simp only [toPys] at h2
  cases h2
  cases xs with
  | nil => simp only [toPys] at h1; cases h1; rfl
  | cons x xs =>
    cases ps with
    | nil => simp only [toPys] at h1; cases e : toPy x <;> simp [e] at h1
    | cons p ps => rfl
theorem okD_flat {α : Type} {f : α → D} {xs : List α} {n : Nat} (h : ∀ x ∈ xs, okD n (f x) = true) : okD (n + 1) (.lst (xs.map f)) = true := by
  show (xs.map f).all _ = true
  rw [List.all_eq_true]
  intro d hd
  obtain ⟨x, hx, rfl⟩ := List.mem_map.mp hd
  exact h x hx
theorem okD_flatT {α : Type} {f : α → D} {xs : List α} {n : Nat} (h : ∀ x ∈ xs, okD n (f x) = true) : okD (n + 1) (.tup (xs.map f)) = true := okD_flat (n := n) h
@[simp] theorem okD_int {n : Nat} {i : Int} : okD n (.int i) = true := by cases n <;> rfl
@[simp] theorem okD_bl {n : Nat} {i : Bool} : okD n (.bl i) = true := by cases n <;> rfl
@[simp] theorem okD_non {n : Nat} : okD n .non = true := by cases n <;> rfl
@[simp] theorem okD_str {n : Nat} {s : Str} (h : PyData.strOk s = true) : okD n (.str s) = true := by cases n <;> exact h
end Dm

namespace Dm
open PySem PySem.Spec PyProof.Rows L2
/-! ### an own class's [] -/
theorem fnIn_of {K : PySem.W.Frag} {f : Addr} {o : Value} {od : Option Addr} {fd : FuncData} {sl : Array (Option Value)} (l : K.lookup f = some ⟨o, od, .func fd, sl⟩) : PySem.W.fnIn K f = true := by
  unfold PySem.W.fnIn
  rw [l]
def rIxO (C : Addr) (sp : Sp) (E : XK) : R2 := fun x y H Q => ∃ a dx fs, x = .ref a ∧ H a = some (.ins C dx fs) ∧ sp [x, y] H Q E
section
variable {X : Cx} {CX : CXT} {k : Nat} {f : Addr} {fd : FuncData} {ps : List Str} {sp : Sp} {E : XK} {C : Addr} {a b : Expr} {ta tb : TE} {pos : Pos}
theorem run_fn1 {pins : List (Addr × Obj)} {σ : L2.St} {H : Hp} {s : Shared} {Q : VK} {us : List Value} {vs : List V} (F : FnOk X.prog X.w X.K X.mg X.base CX k f fd ps sp) (hr : Room (k + 1) X.A) (hb : Binds X.K fd ps []) (hx : Passes CX X E)
    (I : Inv X pins σ H s) (r : Vals vs us) (h : sp vs H Q E) : wpAny (model X.prog X.w) X.A.in1 (call (.ref f) us) (EP X pins σ Q) X.xe s := by
  have hl : us.length = ps.length := by rw [← r.length]; exact F.len _ _ _ _ h
  have e0 := I.env0
  have hbb : BindsTo s fd ⟨us, []⟩ (ps.zip us) := by
    have := hb s us I.kIn (by rw [List.append_nil]; exact hl)
    rw [List.append_nil] at this
    exact this
  refine wpAny_call (codeAny_mono (F.run X.A.in1 X.stack s H ⟨us, []⟩ us vs Q E hr.in1 ⟨e0.frames, e0.mod, e0.bs, e0.bsz, e0.funs, e0.frf, e0.hok, e0.bare⟩ hbb r h) fun r s' hq => ?_)
  cases r with
  | error e => exact hx pins σ H s e s' I hq
  | ok fl =>
    cases fl with
    | ret u => exact I.after hq
    | next => exact False.elim hq
    | brk => exact False.elim hq
    | cont => exact False.elim hq
theorem pe_ixOwn (F : FnOk X.prog X.w X.K X.mg X.base CX k f fd ps sp) (hr : Room (k + 1) X.A) (m : Meth X.K C "__getitem__" f) (hf : PySem.W.fnIn X.K f = true) (hb : Binds X.K fd ps []) (hx : Passes CX X E)
    (ha : PE X a ta) (hb' : PE X b tb) (hsl : ∀ v u, subscripted b true v u = runValue (.builtin "lifetime.subscript" ⟨[v, u], []⟩)) : PE X (.Subscript a b pos) (tOp (rIxO C sp E) ta tb) := by
  refine ⟨fun pins s σ H Q I h => ?_⟩
  refine Subscript_ (binT ha hb' I h fun v u s2 x y H2 I2 rx ry q => ?_)
  obtain ⟨p, dx, fs, rfl, hp, q⟩ := q
  cases rx
  obtain ⟨mA, J, _⟩ := ins_get I2.hok hp
  obtain ⟨od, J, _⟩ := J.look
  obtain ⟨m', hF⟩ := I2.fr
  exact PySem.W.sub_K hF I2.ok.mod.kin J m.at_ hf m.fn (run_fn1 (us := [.ref p, u]) (vs := [.ref p, y]) F hr hb hx I2 (.cons rfl (.cons ry .nil)) q) (hsl _ _)
end
def mIxOwn (c : Nat) (m : Fn) (f g : DEnv → M D) (ρ : DEnv) : M Cell := bnd (f ρ) fun x ρ => bnd (g ρ) fun y ρ => match x with
  | .ins c' ns ds => if c' = c then upC (m [.ins c' ns ds, y]) ρ else none
  | _ => none
theorem de_ixOwn {w : W} {E : XK} {c : Nat} {C : Addr} (hC : w.C c = C) {m : Fn} {ta tb : TE} {f g : DEnv → M D} (h1 : DV w E ta f) (h2 : DV w E tb g) : DE w E (tOp (rIxO C (spP w m) E) ta tb) (mIxOwn c m f g) := fun z F0 B ρ σ H F Q S k => by
  subst hC
  unfold mIxOwn at k
  rw [wpM_bnd] at k
  refine h1 z F0 B ρ σ H F _ S (k.mono fun d ρ1 y x H1 F1 S1 e1 r1 => ?_)
  rw [wpM_bnd] at y
  refine h2 z F0 B ρ1 σ H1 F1 _ S1 (y.mono fun e ρ2 y2 u H2 F2 S2 e2 r2 => ?_)
  cases d <;> first | exact y2.elim | skip
  rename_i c' ns ds
  obtain ⟨hc, y3⟩ := wpM_if (show wpM (if c' = c then _ else none) _ _ from y2)
  subst hc
  have r0 := Rep.mono e2 _ _ r1
  cases r1 with
  | @ins a dx fs _ _ _ q1 q2 q3 =>
  rw [wpM_upC] at y3
  exact ⟨a, dx, fs, rfl, S2.ext.i _ _ (e2 _ _ q1), F2, _, S2.ext.i, .cons r0 (.cons r2 .nil), y3.mono (fun c k2 => Res.fin S2 fun v H' F' S' e' r' => k2 v H' F' S' (e1.trans (e2.trans e')) r') fun c x k2 => k2.later S2.ext⟩
end Dm

local macro_rules | `(tactic| tm_at "xst1") => `(tactic| first
  | (with_reducible refine Kx.q_seq ?_) | (with_reducible refine Kx.q_next ?_) | (with_reducible refine Kx.q_asgN ?_) | (with_reducible refine Kx.q_asg ?_) | (with_reducible refine Kx.q_ret ?_) | (with_reducible refine Kx.q_ifS ?_) | (with_reducible refine Kx.q_drop ?_)
  | ((with_reducible refine Kx.q_var ?_); (refine ⟨_, rfl, ?_⟩)) | (with_reducible refine Kx.q_c ?_) | (with_reducible refine Kx.q_op ?_) | (with_reducible refine Kx.q_un ?_) | (with_reducible refine Kx.q_cb ?_)
  | (with_reducible refine Kx.q_test ?_) | (with_reducible refine Kx.q_B ?_) | (with_reducible refine Kx.q_bl ?_) | (with_reducible refine Kx.q_blI ?_) | (with_reducible refine Kx.q_and ?_) | (with_reducible refine Kx.q_or ?_) | (with_reducible refine Kx.q_not ?_) | (with_reducible refine Kx.q_yes ?_)
  | (with_reducible refine Kx.q_andV ?_) | (with_reducible refine Kx.q_orV ?_) | (with_reducible refine Kx.q_notV ?_) | (with_reducible refine Kx.q_if ?_) | (with_reducible refine Kx.q_chain ?_)
  | (with_reducible refine Kx.q_call ?_) | (with_reducible refine Kx.q_nil ?_) | (with_reducible refine Kx.q_cons ?_) | (with_reducible refine Kx.q_tup ?_) | (with_reducible refine Kx.q_lst ?_)
  | (with_reducible refine Kx.q_sl ?_) | (with_reducible refine Kx.q_noPart ?_) | (with_reducible refine Kx.q_part ?_) | (with_reducible refine Kx.q_int ?_) | (with_reducible refine Kx.q_par ?_) | (with_reducible refine Kx.q_two ?_)
  | (with_reducible refine Kx.q_I0 ?_) | (with_reducible refine Kx.q_U ?_) | ((with_reducible refine Kx.q_eq ?_ ?_); (· exact rfl)) | ((with_reducible refine Kx.q_ne ?_ ?_); (· exact rfl)) | (with_reducible refine Kx.q_isB ?_) | (with_reducible refine Kx.q_notB ?_)
  | (with_reducible refine Kx.q_gSub ?_) | (with_reducible refine Kx.q_int1 ?_) | (with_reducible refine Kx.q_int1b ?_) | (with_reducible refine Kx.q_max2 ?_)
  | ((with_reducible refine Kx.q_new ?_ ?_); (· exact Nat.le_of_ble_eq_true rfl); intro p hp) | ((with_reducible refine Kx.q_dnewK ?_); intro p hp) | (with_reducible refine Kx.q_for ?_) | (with_reducible refine Kx.q_iList ?_) | (with_reducible refine Kx.q_iRng1 ?_)
  | (with_reducible refine Kx.q_iEnT ?_) | (with_reducible refine Kx.q_dc ?_) | ((with_reducible refine Kx.q_disp ?_); intro dp hdp) | (with_reducible refine Kx.q_pnil ?_) | (with_reducible refine Kx.q_pcons ?_)
  | (with_reducible refine Kx.q_meth ?_) | (with_reducible refine Kx.q_bm ?_) | (with_reducible refine Kx.q_make ?_) | (with_reducible refine Kx.q_makeK ?_) | (with_reducible refine Kx.q_lc2 ?_) | (with_reducible refine Kx.q_dgetE ?_) | (with_reducible refine Kx.q_lenE ?_) | (with_reducible refine Kx.q_iTup ?_) | (with_reducible refine Kx.q_gCons ?_) | (with_reducible refine Kx.q_gNil ?_) | (with_reducible refine Kx.q_fldE ?_) | (with_reducible refine Kx.q_sfldE ?_) | (with_reducible refine Kx.q_gName ?_) | (with_reducible refine Kx.q_m1 ?_) | (with_reducible refine Kx.q_strI ?_) | (with_reducible refine Kx.q_lc ?_)
  | (with_reducible refine Kx.q_iEnum ?_)
  | ((with_reducible refine Kx.q_dnewT ?_); intro p hp)
  | (with_reducible refine L2.iteT ?_) | (with_reducible refine L2.iteF ?_))
/-- as far as it goes -/
local macro_rules | `(tactic| tm_at "xst") => `(tactic| repeat' (tm_at "xst1"))
/-- what stands at an address of a heap that grew -/
local macro_rules | `(tactic| tm_at "xlook") => `(tactic| first | assumption | exact L2.upd_same | (refine Kx.at_new (by assumption) ?_; tm_at "xlook") | (refine Kx.at_same (by assumption) ?_; tm_at "xlook"))
local macro_rules | `(tactic| tm_at "xany") => `(tactic| first | assumption | exact Kx.Any.non | exact Kx.Any.bl _ | exact Kx.Any.int _ | exact Kx.Any.str _ | (apply Kx.Any.lst; (tm_at "xlook")) | (apply Kx.Any.tup; (tm_at "xlook")) | (apply Kx.Any.dK; (tm_at "xlook")))
local macro_rules | `(tactic| tm_at "xpool") => `(tactic| first | assumption | (refine Kx.Pool.but ?_ (by assumption); tm_at "xpool") | (refine Kx.Pool.same ?_ (show L2.Same _ _ by assumption); tm_at "xpool"))
/-- all items of a written list -/
local macro_rules | `(tactic| tm_at "xeach") => `(tactic| first | exact List.forall_mem_nil _ | (refine List.forall_mem_cons.mpr ⟨?_, ?_⟩; rotate_left; (tm_at "xeach")))
local macro_rules | `(tactic| tm_at "xsame") => `(tactic| first | assumption | exact L2.Same.refl _ | (refine L2.Same.trans ?_ (Kx.Same.new (by assumption)); tm_at "xsame") | (refine L2.Same.trans ?_ (show L2.Same _ _ by assumption); tm_at "xsame") | (refine Kx.Same.but ?_ (by assumption) (by assumption); tm_at "xsame"))
local macro_rules | `(tactic| tm_at "xany2") => `(tactic| first | (apply Kx.Any2.lst; (tm_at "xlook")) | (apply Kx.Any2.dK; (tm_at "xlook")) | (apply Kx.Any2.tup; (· tm_at "xlook"); ((tm_at "xeach"); all_goals (tm_at "xany"))) | (refine Kx.Any2.flat ?_ ?_; (· tm_at "xany"); (intro _ z; cases z)))
/-- a test whose answer computes -/
local macro_rules | `(tactic| tm_at "xdec") => `(tactic| first | (refine Kx.i_yes rfl ?_) | (refine Kx.i_no rfl ?_))
/-- a field of a written list -/
local macro_rules | `(tactic| tm_at "xlk") => `(tactic| first | exact Kx.lookup_hit | (refine (Kx.lookup_miss (by decide +kernel)).trans ?_; tm_at "xlk") | rfl)
local macro_rules | `(tactic| tm_at "xlen") => `(tactic| first | decide | (refine Kx.putF_lt ?_; tm_at "xlen"))
local macro_rules | `(tactic| tm_at "xval") => `(tactic| first | exact Kx.valV_hit | (refine (Kx.valV_miss (by decide +kernel)).trans ?_; tm_at "xval") | rfl)
/-- data of tuples, item by item -/
local macro_rules | `(tactic| tm_at "xtd") => `(tactic| first | assumption | exact Kx.Td.non | exact Kx.Td.bl _ | exact Kx.Td.int _ | exact Kx.Td.str _ | exact Kx.TdAll.nil | (refine Kx.TdAll.cons ?_ ?_; (· tm_at "xtd"); (· tm_at "xtd")) | (apply Kx.Td.tup; (· tm_at "xlook"); (· tm_at "xtd")))
/-- what is no event -/
local macro_rules | `(tactic| tm_at "xevt") => `(tactic| first | rfl | exact Kx.evT_long (Nat.le_of_ble_eq_true rfl) | exact Kx.ev1 (by decide +kernel) | exact Kx.ev2top (by decide +kernel) | exact Kx.ev2no (by decide +kernel) (by decide +kernel) (by decide +kernel) (by decide +kernel) | exact Kx.ev3w (by decide +kernel) | exact Kx.ev3u (by decide +kernel) | exact Kx.evT_nstrB rfl | exact Kx.ev3n (Kx.nin5 (by assumption) (by decide +kernel)) | exact Kx.ev3n (Kx.inNames_notB rfl) | exact Kx.ev2nm (fun z => absurd z (by decide +kernel)) (Kx.nin5 (by assumption) (by decide +kernel)) | exact Kx.ev2nm (fun z => absurd z (by decide +kernel)) (Kx.ninN (by assumption) (by decide +kernel)) | exact Kx.ev2nm (fun z => absurd z (by decide +kernel)) (Kx.inNames_notB rfl) | exact Kx.ev2nm (fun _ => by decide +kernel) (Kx.ninC (by assumption)))
local macro_rules | `(tactic| tm_at "xoi") => `(tactic| first | (refine Kx.oi_n rfl ?_; tm_at "xany") | (refine Kx.oi_s ?_; first | decide +kernel | omega))
local macro_rules | `(tactic| tm_at "xodd") => `(tactic| first | (exact Kx.OddV.lst (by tm_at "xlook")) | (exact Kx.OddV.dK (by tm_at "xlook")) | (refine Kx.OddV.flatB rfl ?_; tm_at "xany") | (apply Kx.OddV.tup; (· tm_at "xlook"); (· (intro ns hns; tm_at "xevt")); (· (tm_at "xeach"; all_goals (tm_at "xoi")))))

namespace Toy
open PySem L2 Kx
def topS (i : Nat) : Stmt := PySem.Challenge.pw_cutofftills_k29_steps_told.main.body.getD i (.Pass ⟨0, 0, 0, 0⟩)
abbrev s__law_first : Stmt := (topS 65)
abbrev s_is_integer : Stmt := (topS 7)
abbrev s_is_integer_to : Stmt := (topS 8)
abbrev s_is_limit : Stmt := (topS 13)
abbrev s_is_name : Stmt := (topS 12)
abbrev s_is_truth : Stmt := (topS 9)
abbrev s_Till_init : Stmt := (inClass (topS 47) 0)
abbrev s_ascending_links : Stmt := (topS 53)
abbrev s_is_link : Stmt := (topS 51)
abbrev s_is_list : Stmt := (topS 10)
abbrev s_check_links : Stmt := (topS 52)
abbrev s_is_word : Stmt := (topS 11)
abbrev s_is_memory : Stmt := (topS 14)
abbrev s_check_parts : Stmt := (topS 54)
abbrev s_check_tills : Stmt := (topS 50)
abbrev s_Town_init : Stmt := (inClass (topS 56) 0)
abbrev s__law_made : Stmt := (topS 63)
abbrev s__law_draw : Stmt := (topS 59)
abbrev s__law_pick : Stmt := (topS 60)
abbrev s__law_names : Stmt := (topS 61)
abbrev s__law_plan : Stmt := (topS 62)
abbrev s__law_pool : Stmt := (topS 58)
abbrev s__law_group : Stmt := (topS 64)
abbrev s__law_low : Stmt := (topS 69)
abbrev s__law_put : Stmt := (topS 68)
abbrev s__law_stopped : Stmt := (topS 66)
abbrev s__law_lined : Stmt := (topS 71)
abbrev s__law_word : Stmt := (topS 67)
abbrev s__law_paid : Stmt := (topS 70)
abbrev s__law_after : Stmt := (topS 73)
abbrev s__law_can : Stmt := (topS 72)
abbrev s__law_events : Stmt := (topS 74)
abbrev s__law_choices : Stmt := (topS 75)
abbrev s__law_steps : Stmt := (topS 76)
abbrev s_Town_getitem : Stmt := (inClass (topS 56) 5)
abbrev s_Town_contains : Stmt := (inClass (topS 56) 4)
abbrev s_Town_names : Stmt := (inClass (topS 56) 6)
abbrev s_joined_names : Stmt := (topS 55)
abbrev s_Town_group : Stmt := (inClass (topS 56) 7)
abbrev s_events_of : Stmt := (topS 17)
abbrev s_most_remembered : Stmt := (topS 20)
abbrev s_Layout_init : Stmt := (inClass (topS 19) 0)
abbrev s_can_follow : Stmt := (topS 25)
abbrev s_is_stopped : Stmt := (topS 34)
abbrev s_with_group : Stmt := (topS 23)
abbrev s_with_item : Stmt := (topS 22)
abbrev s_behind_cut : Stmt := (topS 27)
abbrev s_cut_to_tops : Stmt := (topS 24)
abbrev s_behind_line : Stmt := (topS 28)
abbrev s_behind_loss : Stmt := (topS 30)
abbrev s_to_remember : Stmt := (topS 35)
abbrev s_takes_for_stopped : Stmt := (topS 33)
abbrev s_word_of_payment : Stmt := (topS 32)
abbrev s_behind_payment : Stmt := (topS 31)
abbrev s_behind_top : Stmt := (topS 29)
abbrev s_moved : Stmt := (topS 26)
abbrev s_steps_from : Stmt := (topS 36)
abbrev s_steps : Stmt := (topS 45)
abbrev s_law : Stmt := (topS 77)
theorem sc__law_first : FnScope ["_law_t", "_law_many"] ["_law_t"] (defScope s__law_first) := ⟨rfl, rfl, rfl, by decide +kernel, rfl, by decide +kernel, by decide +kernel⟩
theorem sc_is_integer : FnScope ["value"] ["value"] (defScope s_is_integer) := ⟨rfl, rfl, rfl, by decide +kernel, rfl, by decide +kernel, by decide +kernel⟩
theorem sc_is_integer_to : FnScope ["value", "top"] ["value", "top"] (defScope s_is_integer_to) := ⟨rfl, rfl, rfl, by decide +kernel, rfl, by decide +kernel, by decide +kernel⟩
theorem sc_is_limit : FnScope ["value"] ["value"] (defScope s_is_limit) := ⟨rfl, rfl, rfl, by decide +kernel, rfl, by decide +kernel, by decide +kernel⟩
theorem sc_is_name : FnScope ["value", "letter"] ["value"] (defScope s_is_name) := ⟨rfl, rfl, rfl, by decide +kernel, rfl, by decide +kernel, by decide +kernel⟩
theorem sc_is_truth : FnScope ["value"] ["value"] (defScope s_is_truth) := ⟨rfl, rfl, rfl, by decide +kernel, rfl, by decide +kernel, by decide +kernel⟩
theorem sc_Till_init : FnScope ["self", "name", "limit", "heeds"] ["self", "name", "limit", "heeds"] (defScope s_Till_init) := ⟨rfl, rfl, rfl, by decide +kernel, rfl, by decide +kernel, by decide +kernel⟩
theorem sc_ascending_links : FnScope ["names", "links", "ordered", "name", "one", "other"] ["names", "links"] (defScope s_ascending_links) := ⟨rfl, rfl, rfl, by decide +kernel, rfl, by decide +kernel, by decide +kernel⟩
theorem sc_is_link : FnScope ["names", "value", "one", "other"] ["names", "value"] (defScope s_is_link) := ⟨rfl, rfl, rfl, by decide +kernel, rfl, by decide +kernel, by decide +kernel⟩
theorem sc_is_list : FnScope ["value"] ["value"] (defScope s_is_list) := ⟨rfl, rfl, rfl, by decide +kernel, rfl, by decide +kernel, by decide +kernel⟩
theorem sc_check_links : FnScope ["names", "links", "earlier", "index", "link"] ["names", "links"] (defScope s_check_links) := ⟨rfl, rfl, rfl, by decide +kernel, rfl, by decide +kernel, by decide +kernel⟩
theorem sc_is_word : FnScope ["value", "word"] ["value", "word"] (defScope s_is_word) := ⟨rfl, rfl, rfl, by decide +kernel, rfl, by decide +kernel, by decide +kernel⟩
theorem sc_is_memory : FnScope ["value", "kind", "most"] ["value"] (defScope s_is_memory) := ⟨rfl, rfl, rfl, by decide +kernel, rfl, by decide +kernel, by decide +kernel⟩
theorem sc_check_parts : FnScope ["money", "memory", "tops", "numbered"] ["money", "memory", "tops", "numbered"] (defScope s_check_parts) := ⟨rfl, rfl, rfl, by decide +kernel, rfl, by decide +kernel, by decide +kernel⟩
theorem sc_check_tills : FnScope ["tills", "names", "index", "till"] ["tills"] (defScope s_check_tills) := ⟨rfl, rfl, rfl, by decide +kernel, rfl, by decide +kernel, by decide +kernel⟩
theorem sc_Town_init : FnScope ["self", "tills", "links", "money", "memory", "tops", "numbered", "names", "till"] ["self", "tills", "links", "money", "memory", "tops", "numbered"] (defScope s_Town_init) := ⟨rfl, rfl, rfl, by decide +kernel, rfl, by decide +kernel, by decide +kernel⟩
theorem sc__law_made : FnScope ["_law_t", "_law_tills", "_law_some", "_law_k"] ["_law_t"] (defScope s__law_made) := ⟨rfl, rfl, rfl, by decide +kernel, rfl, by decide +kernel, by decide +kernel⟩
theorem sc__law_draw : FnScope ["_law_pool_here", "_law_many", "_law_found"] ["_law_pool_here", "_law_many"] (defScope s__law_draw) := ⟨rfl, rfl, rfl, by decide +kernel, rfl, by decide +kernel, by decide +kernel⟩
theorem sc__law_pick : FnScope ["_law_pool_here", "_law_row"] ["_law_pool_here", "_law_row"] (defScope s__law_pick) := ⟨rfl, rfl, rfl, by decide +kernel, rfl, by decide +kernel, by decide +kernel⟩
theorem sc__law_names : FnScope ["_law_pool_here", "_law_count", "_law_signs", "_law_origin", "_law_step", "_law_ends", "_law_head", "_law_tail", "_law_k"] ["_law_pool_here", "_law_count"] (defScope s__law_names) := ⟨rfl, rfl, rfl, by decide +kernel, rfl, by decide +kernel, by decide +kernel⟩
theorem sc__law_plan : FnScope ["_law_pool_here", "_law_many", "_law_most", "_law_names_here", "_law_t", "_law_one", "_law_other", "_law_pair", "_law_name"] ["_law_pool_here", "_law_many", "_law_most"] (defScope s__law_plan) := ⟨rfl, rfl, rfl, by decide +kernel, rfl, by decide +kernel, by decide +kernel⟩
theorem sc__law_pool : FnScope ["_law_script", "_law_k", "_law_cell", "_law_size", "_law_mixed"] ["_law_script", "_law_k"] (defScope s__law_pool) := ⟨rfl, rfl, rfl, by decide +kernel, rfl, by decide +kernel, by decide +kernel⟩
theorem sc__law_group : FnScope ["_law_t", "_law_at", "_law_found", "_law_names_here", "_law_turn", "_law_one", "_law_near", "_law_other"] ["_law_t", "_law_at"] (defScope s__law_group) := ⟨rfl, rfl, rfl, by decide +kernel, rfl, by decide +kernel, by decide +kernel⟩
theorem sc__law_low : FnScope ["_law_left", "_law_more"] ["_law_left", "_law_more"] (defScope s__law_low) := ⟨rfl, rfl, rfl, by decide +kernel, rfl, by decide +kernel, by decide +kernel⟩
theorem sc__law_put : FnScope ["_law_row", "_law_at", "_law_value"] ["_law_row", "_law_at", "_law_value"] (defScope s__law_put) := ⟨rfl, rfl, rfl, by decide +kernel, rfl, by decide +kernel, by decide +kernel⟩
theorem sc__law_stopped : FnScope ["_law_s"] ["_law_s"] (defScope s__law_stopped) := ⟨rfl, rfl, rfl, by decide +kernel, rfl, by decide +kernel, by decide +kernel⟩
theorem sc__law_lined : FnScope ["_law_t", "_law_s", "_law_at", "_law_has_line", "_law_left", "_law_lines", "_law_group_here", "_law_heard", "_law_has_heard", "_law_one"] ["_law_t", "_law_s", "_law_at", "_law_has_line"] (defScope s__law_lined) := ⟨rfl, rfl, rfl, by decide +kernel, rfl, by decide +kernel, by decide +kernel⟩
theorem sc__law_word : FnScope ["_law_t", "_law_s", "_law_at", "_law_units", "_law_group_here", "_law_knows", "_law_cost", "_law_one"] ["_law_t", "_law_s", "_law_at", "_law_units"] (defScope s__law_word) := ⟨rfl, rfl, rfl, by decide +kernel, rfl, by decide +kernel, by decide +kernel⟩
theorem sc__law_paid : FnScope ["_law_t", "_law_s", "_law_at", "_law_units", "_law_word_here", "_law_cost"] ["_law_t", "_law_s", "_law_at", "_law_units"] (defScope s__law_paid) := ⟨rfl, rfl, rfl, by decide +kernel, rfl, by decide +kernel, by decide +kernel⟩
theorem sc__law_after : FnScope ["_law_t", "_law_s", "_law_event"] ["_law_t", "_law_s", "_law_event"] (defScope s__law_after) := ⟨rfl, rfl, rfl, by decide +kernel, rfl, by decide +kernel, by decide +kernel⟩
theorem sc__law_can : FnScope ["_law_t", "_law_s", "_law_event"] ["_law_t", "_law_s", "_law_event"] (defScope s__law_can) := ⟨rfl, rfl, rfl, by decide +kernel, rfl, by decide +kernel, by decide +kernel⟩
theorem sc__law_events : FnScope ["_law_t", "_law_found", "_law_name"] ["_law_t"] (defScope s__law_events) := ⟨rfl, rfl, rfl, by decide +kernel, rfl, by decide +kernel, by decide +kernel⟩
theorem sc__law_choices : FnScope ["_law_t", "_law_s", "_law_event"] ["_law_t", "_law_s"] (defScope s__law_choices) := ⟨rfl, rfl, rfl, by decide +kernel, rfl, by decide +kernel, by decide +kernel⟩
theorem sc__law_steps : FnScope ["_law_t", "_law_s", "_law_found", "_law_event", "_law_later", "_law_word_here"] ["_law_t", "_law_s"] (defScope s__law_steps) := ⟨rfl, rfl, rfl, by decide +kernel, rfl, by decide +kernel, by decide +kernel⟩
theorem sc_Town_getitem : FnScope ["self", "at"] ["self", "at"] (defScope s_Town_getitem) := ⟨rfl, rfl, rfl, by decide +kernel, rfl, by decide +kernel, by decide +kernel⟩
theorem sc_Town_contains : FnScope ["self", "x"] ["self", "x"] (defScope s_Town_contains) := ⟨rfl, rfl, rfl, by decide +kernel, rfl, by decide +kernel, by decide +kernel⟩
theorem sc_Town_names : FnScope ["self", "till"] ["self"] (defScope s_Town_names) := ⟨rfl, rfl, rfl, by decide +kernel, rfl, by decide +kernel, by decide +kernel⟩
theorem sc_joined_names : FnScope ["names", "links", "name", "found", "grows", "one", "other"] ["names", "links", "name"] (defScope s_joined_names) := ⟨rfl, rfl, rfl, by decide +kernel, rfl, by decide +kernel, by decide +kernel⟩
theorem sc_Town_group : FnScope ["self", "name"] ["self", "name"] (defScope s_Town_group) := ⟨rfl, rfl, rfl, by decide +kernel, rfl, by decide +kernel, by decide +kernel⟩
theorem sc_events_of : FnScope ["town", "names", "events", "name", "units"] ["town"] (defScope s_events_of) := ⟨rfl, rfl, rfl, by decide +kernel, rfl, by decide +kernel, by decide +kernel⟩
theorem sc_most_remembered : FnScope ["memory"] ["memory"] (defScope s_most_remembered) := ⟨rfl, rfl, rfl, by decide +kernel, rfl, by decide +kernel, by decide +kernel⟩
theorem sc_Layout_init : FnScope ["self", "town", "names", "tills", "name", "index", "till", "one", "event"] ["self", "town"] (defScope s_Layout_init) := ⟨rfl, rfl, rfl, by decide +kernel, rfl, by decide +kernel, by decide +kernel⟩
theorem sc_can_follow : FnScope ["layout", "state", "event", "lines", "lost", "tops", "word"] ["layout", "state", "event"] (defScope s_can_follow) := ⟨rfl, rfl, rfl, by decide +kernel, rfl, by decide +kernel, by decide +kernel⟩
theorem sc_is_stopped : FnScope ["left", "lost"] ["left", "lost"] (defScope s_is_stopped) := ⟨rfl, rfl, rfl, by decide +kernel, rfl, by decide +kernel, by decide +kernel⟩
theorem sc_with_group : FnScope ["row", "group", "value", "index", "old"] ["row", "group", "value"] (defScope s_with_group) := ⟨rfl, rfl, rfl, by decide +kernel, rfl, by decide +kernel, by decide +kernel⟩
theorem sc_with_item : FnScope ["row", "at", "value"] ["row", "at", "value"] (defScope s_with_item) := ⟨rfl, rfl, rfl, by decide +kernel, rfl, by decide +kernel, by decide +kernel⟩
theorem sc_behind_cut : FnScope ["layout", "state", "at", "lines", "untold", "heard", "remembered", "left", "lost", "tops", "group", "index"] ["layout", "state", "at"] (defScope s_behind_cut) := ⟨rfl, rfl, rfl, by decide +kernel, rfl, by decide +kernel, by decide +kernel⟩
theorem sc_cut_to_tops : FnScope ["left", "tops"] ["left", "tops"] (defScope s_cut_to_tops) := ⟨rfl, rfl, rfl, by decide +kernel, rfl, by decide +kernel, by decide +kernel⟩
theorem sc_behind_line : FnScope ["layout", "state", "at", "lines", "untold", "heard", "remembered", "left", "lost", "tops"] ["layout", "state", "at"] (defScope s_behind_line) := ⟨rfl, rfl, rfl, by decide +kernel, rfl, by decide +kernel, by decide +kernel⟩
theorem sc_behind_loss : FnScope ["state", "lines", "untold", "heard", "remembered", "left"] ["state"] (defScope s_behind_loss) := ⟨rfl, rfl, rfl, by decide +kernel, rfl, by decide +kernel, by decide +kernel⟩
theorem sc_to_remember : FnScope ["layout", "units"] ["layout", "units"] (defScope s_to_remember) := ⟨rfl, rfl, rfl, by decide +kernel, rfl, by decide +kernel, by decide +kernel⟩
theorem sc_takes_for_stopped : FnScope ["layout", "state", "at", "lines", "heard", "left", "lost", "index"] ["layout", "state", "at"] (defScope s_takes_for_stopped) := ⟨rfl, rfl, rfl, by decide +kernel, rfl, by decide +kernel, by decide +kernel⟩
theorem sc_word_of_payment : FnScope ["layout", "state", "at", "units", "lines", "untold", "_", "remembered", "left", "lost", "index"] ["layout", "state", "at", "units"] (defScope s_word_of_payment) := ⟨rfl, rfl, rfl, by decide +kernel, rfl, by decide +kernel, by decide +kernel⟩
theorem sc_behind_payment : FnScope ["layout", "state", "at", "units", "word", "lines", "untold", "heard", "remembered", "left", "lost", "tops"] ["layout", "state", "at", "units"] (defScope s_behind_payment) := ⟨rfl, rfl, rfl, by decide +kernel, rfl, by decide +kernel, by decide +kernel⟩
theorem sc_behind_top : FnScope ["state", "units", "lines", "untold", "heard", "remembered", "left", "lost", "tops"] ["state", "units"] (defScope s_behind_top) := ⟨rfl, rfl, rfl, by decide +kernel, rfl, by decide +kernel, by decide +kernel⟩
theorem sc_moved : FnScope ["layout", "state", "event", "word"] ["layout", "state", "event"] (defScope s_moved) := ⟨rfl, rfl, rfl, by decide +kernel, rfl, by decide +kernel, by decide +kernel⟩
theorem sc_steps_from : FnScope ["layout", "state", "rows", "event", "behind", "word"] ["layout", "state"] (defScope s_steps_from) := ⟨rfl, rfl, rfl, by decide +kernel, rfl, by decide +kernel, by decide +kernel⟩
theorem sc_steps : FnScope ["town", "state"] ["town", "state"] (defScope s_steps) := ⟨rfl, rfl, rfl, by decide +kernel, rfl, by decide +kernel, by decide +kernel⟩
theorem sc_law : FnScope ["_law_script", "_law_k", "_law_pool_here", "_law_t", "_law_town", "_law_s", "_law_turn", "_law_due"] ["_law_script"] (defScope s_law) := ⟨rfl, rfl, rfl, by decide +kernel, rfl, by decide +kernel, by decide +kernel⟩
structure Txt (K : PySem.W.Frag) (mg : Str → Option Value) where
  c_Layout : Addr
  g_Layout : mg "Layout" = some (.ref c_Layout)
  cl_Layout : Cls K c_Layout
  n_Layout_indexes : NoAttr K c_Layout "indexes"
  n_Layout_limits : NoAttr K c_Layout "limits"
  n_Layout_heeding : NoAttr K c_Layout "heeding"
  n_Layout_groups : NoAttr K c_Layout "groups"
  n_Layout_kind : NoAttr K c_Layout "kind"
  n_Layout_top_remembered : NoAttr K c_Layout "top_remembered"
  n_Layout_numbered : NoAttr K c_Layout "numbered"
  n_Layout_plain_events : NoAttr K c_Layout "plain_events"
  c_Till : Addr
  g_Till : mg "Till" = some (.ref c_Till)
  cl_Till : Cls K c_Till
  n_Till_name : NoAttr K c_Till "name"
  n_Till_limit : NoAttr K c_Till "limit"
  n_Till_heeds : NoAttr K c_Till "heeds"
  c_Town : Addr
  g_Town : mg "Town" = some (.ref c_Town)
  cl_Town : Cls K c_Town
  n_Town__tills : NoAttr K c_Town "_tills"
  n_Town__by_name : NoAttr K c_Town "_by_name"
  n_Town_links : NoAttr K c_Town "links"
  n_Town_money : NoAttr K c_Town "money"
  n_Town_memory : NoAttr K c_Town "memory"
  n_Town_tops : NoAttr K c_Town "tops"
  n_Town_numbered : NoAttr K c_Town "numbered"
  sp_cls : PySem.W.specialIn K (.builtin "object.__class__") "__get__" = some (some (.builtin "getset_descriptor.__get__"))
  tk_cls : PySem.W.takesIn K (.builtin "object.__class__") = some true
  ic_Till : PySem.W.findIn K (.ref c_Till) "__class__" = some (some (.builtin "object.__class__"))
  mr_Till : PySem.W.mroIn K c_Till (.type "object") = some true
  ki_Till : PySem.W.kitOne K (.ref c_Till) (.ref c_Till) = some true
  ty_Till : PySem.W.typeIn K (.ref c_Till) = some (.type "type")
  a__law_first : Addr
  d__law_first : FuncData
  F__law_first : Fun K "_law_first" "_law_first" s__law_first a__law_first d__law_first
  g__law_first : mg "_law_first" = some (.ref a__law_first)
  k__law_first : PySem.W.keepIn K (.ref a__law_first) = true
  b__law_first : Binds K d__law_first ["_law_t"] []
  a_is_integer : Addr
  d_is_integer : FuncData
  F_is_integer : Fun K "is_integer" "is_integer" s_is_integer a_is_integer d_is_integer
  g_is_integer : mg "is_integer" = some (.ref a_is_integer)
  k_is_integer : PySem.W.keepIn K (.ref a_is_integer) = true
  b_is_integer : Binds K d_is_integer ["value"] []
  a_is_integer_to : Addr
  d_is_integer_to : FuncData
  F_is_integer_to : Fun K "is_integer_to" "is_integer_to" s_is_integer_to a_is_integer_to d_is_integer_to
  g_is_integer_to : mg "is_integer_to" = some (.ref a_is_integer_to)
  k_is_integer_to : PySem.W.keepIn K (.ref a_is_integer_to) = true
  b_is_integer_to : Binds K d_is_integer_to ["value", "top"] []
  a_is_limit : Addr
  d_is_limit : FuncData
  F_is_limit : Fun K "is_limit" "is_limit" s_is_limit a_is_limit d_is_limit
  g_is_limit : mg "is_limit" = some (.ref a_is_limit)
  k_is_limit : PySem.W.keepIn K (.ref a_is_limit) = true
  b_is_limit : Binds K d_is_limit ["value"] []
  a_is_name : Addr
  d_is_name : FuncData
  F_is_name : Fun K "is_name" "is_name" s_is_name a_is_name d_is_name
  g_is_name : mg "is_name" = some (.ref a_is_name)
  k_is_name : PySem.W.keepIn K (.ref a_is_name) = true
  b_is_name : Binds K d_is_name ["value"] []
  a_is_truth : Addr
  d_is_truth : FuncData
  F_is_truth : Fun K "is_truth" "is_truth" s_is_truth a_is_truth d_is_truth
  g_is_truth : mg "is_truth" = some (.ref a_is_truth)
  k_is_truth : PySem.W.keepIn K (.ref a_is_truth) = true
  b_is_truth : Binds K d_is_truth ["value"] []
  a_Till_init : Addr
  d_Till_init : FuncData
  F_Till_init : Fun K "__init__" "Till.__init__" s_Till_init a_Till_init d_Till_init
  mk_Till : Mk K c_Till a_Till_init
  a_ascending_links : Addr
  d_ascending_links : FuncData
  F_ascending_links : Fun K "ascending_links" "ascending_links" s_ascending_links a_ascending_links d_ascending_links
  g_ascending_links : mg "ascending_links" = some (.ref a_ascending_links)
  k_ascending_links : PySem.W.keepIn K (.ref a_ascending_links) = true
  b_ascending_links : Binds K d_ascending_links ["names", "links"] []
  a_is_link : Addr
  d_is_link : FuncData
  F_is_link : Fun K "is_link" "is_link" s_is_link a_is_link d_is_link
  g_is_link : mg "is_link" = some (.ref a_is_link)
  k_is_link : PySem.W.keepIn K (.ref a_is_link) = true
  b_is_link : Binds K d_is_link ["names", "value"] []
  a_is_list : Addr
  d_is_list : FuncData
  F_is_list : Fun K "is_list" "is_list" s_is_list a_is_list d_is_list
  g_is_list : mg "is_list" = some (.ref a_is_list)
  k_is_list : PySem.W.keepIn K (.ref a_is_list) = true
  b_is_list : Binds K d_is_list ["value"] []
  a_check_links : Addr
  d_check_links : FuncData
  F_check_links : Fun K "check_links" "check_links" s_check_links a_check_links d_check_links
  g_check_links : mg "check_links" = some (.ref a_check_links)
  k_check_links : PySem.W.keepIn K (.ref a_check_links) = true
  b_check_links : Binds K d_check_links ["names", "links"] []
  a_is_word : Addr
  d_is_word : FuncData
  F_is_word : Fun K "is_word" "is_word" s_is_word a_is_word d_is_word
  g_is_word : mg "is_word" = some (.ref a_is_word)
  k_is_word : PySem.W.keepIn K (.ref a_is_word) = true
  b_is_word : Binds K d_is_word ["value", "word"] []
  a_is_memory : Addr
  d_is_memory : FuncData
  F_is_memory : Fun K "is_memory" "is_memory" s_is_memory a_is_memory d_is_memory
  g_is_memory : mg "is_memory" = some (.ref a_is_memory)
  k_is_memory : PySem.W.keepIn K (.ref a_is_memory) = true
  b_is_memory : Binds K d_is_memory ["value"] []
  a_check_parts : Addr
  d_check_parts : FuncData
  F_check_parts : Fun K "check_parts" "check_parts" s_check_parts a_check_parts d_check_parts
  g_check_parts : mg "check_parts" = some (.ref a_check_parts)
  k_check_parts : PySem.W.keepIn K (.ref a_check_parts) = true
  b_check_parts : Binds K d_check_parts ["money", "memory", "tops", "numbered"] []
  a_check_tills : Addr
  d_check_tills : FuncData
  F_check_tills : Fun K "check_tills" "check_tills" s_check_tills a_check_tills d_check_tills
  g_check_tills : mg "check_tills" = some (.ref a_check_tills)
  k_check_tills : PySem.W.keepIn K (.ref a_check_tills) = true
  b_check_tills : Binds K d_check_tills ["tills"] []
  a_Town_init : Addr
  d_Town_init : FuncData
  F_Town_init : Fun K "__init__" "Town.__init__" s_Town_init a_Town_init d_Town_init
  mk_Town : Mk K c_Town a_Town_init
  a__law_made : Addr
  d__law_made : FuncData
  F__law_made : Fun K "_law_made" "_law_made" s__law_made a__law_made d__law_made
  g__law_made : mg "_law_made" = some (.ref a__law_made)
  k__law_made : PySem.W.keepIn K (.ref a__law_made) = true
  b__law_made : Binds K d__law_made ["_law_t"] []
  a__law_draw : Addr
  d__law_draw : FuncData
  F__law_draw : Fun K "_law_draw" "_law_draw" s__law_draw a__law_draw d__law_draw
  g__law_draw : mg "_law_draw" = some (.ref a__law_draw)
  k__law_draw : PySem.W.keepIn K (.ref a__law_draw) = true
  b__law_draw : Binds K d__law_draw ["_law_pool_here", "_law_many"] []
  a__law_pick : Addr
  d__law_pick : FuncData
  F__law_pick : Fun K "_law_pick" "_law_pick" s__law_pick a__law_pick d__law_pick
  g__law_pick : mg "_law_pick" = some (.ref a__law_pick)
  k__law_pick : PySem.W.keepIn K (.ref a__law_pick) = true
  b__law_pick : Binds K d__law_pick ["_law_pool_here", "_law_row"] []
  a__law_names : Addr
  d__law_names : FuncData
  F__law_names : Fun K "_law_names" "_law_names" s__law_names a__law_names d__law_names
  g__law_names : mg "_law_names" = some (.ref a__law_names)
  k__law_names : PySem.W.keepIn K (.ref a__law_names) = true
  b__law_names : Binds K d__law_names ["_law_pool_here", "_law_count"] []
  a__law_plan : Addr
  d__law_plan : FuncData
  F__law_plan : Fun K "_law_plan" "_law_plan" s__law_plan a__law_plan d__law_plan
  g__law_plan : mg "_law_plan" = some (.ref a__law_plan)
  k__law_plan : PySem.W.keepIn K (.ref a__law_plan) = true
  b__law_plan : Binds K d__law_plan ["_law_pool_here", "_law_many", "_law_most"] []
  a__law_pool : Addr
  d__law_pool : FuncData
  F__law_pool : Fun K "_law_pool" "_law_pool" s__law_pool a__law_pool d__law_pool
  g__law_pool : mg "_law_pool" = some (.ref a__law_pool)
  k__law_pool : PySem.W.keepIn K (.ref a__law_pool) = true
  b__law_pool : Binds K d__law_pool ["_law_script", "_law_k"] []
  a__law_group : Addr
  d__law_group : FuncData
  F__law_group : Fun K "_law_group" "_law_group" s__law_group a__law_group d__law_group
  g__law_group : mg "_law_group" = some (.ref a__law_group)
  k__law_group : PySem.W.keepIn K (.ref a__law_group) = true
  b__law_group : Binds K d__law_group ["_law_t", "_law_at"] []
  a__law_low : Addr
  d__law_low : FuncData
  F__law_low : Fun K "_law_low" "_law_low" s__law_low a__law_low d__law_low
  g__law_low : mg "_law_low" = some (.ref a__law_low)
  k__law_low : PySem.W.keepIn K (.ref a__law_low) = true
  b__law_low : Binds K d__law_low ["_law_left", "_law_more"] []
  a__law_put : Addr
  d__law_put : FuncData
  F__law_put : Fun K "_law_put" "_law_put" s__law_put a__law_put d__law_put
  g__law_put : mg "_law_put" = some (.ref a__law_put)
  k__law_put : PySem.W.keepIn K (.ref a__law_put) = true
  b__law_put : Binds K d__law_put ["_law_row", "_law_at", "_law_value"] []
  a__law_stopped : Addr
  d__law_stopped : FuncData
  F__law_stopped : Fun K "_law_stopped" "_law_stopped" s__law_stopped a__law_stopped d__law_stopped
  g__law_stopped : mg "_law_stopped" = some (.ref a__law_stopped)
  k__law_stopped : PySem.W.keepIn K (.ref a__law_stopped) = true
  b__law_stopped : Binds K d__law_stopped ["_law_s"] []
  a__law_lined : Addr
  d__law_lined : FuncData
  F__law_lined : Fun K "_law_lined" "_law_lined" s__law_lined a__law_lined d__law_lined
  g__law_lined : mg "_law_lined" = some (.ref a__law_lined)
  k__law_lined : PySem.W.keepIn K (.ref a__law_lined) = true
  b__law_lined : Binds K d__law_lined ["_law_t", "_law_s", "_law_at", "_law_has_line"] []
  a__law_word : Addr
  d__law_word : FuncData
  F__law_word : Fun K "_law_word" "_law_word" s__law_word a__law_word d__law_word
  g__law_word : mg "_law_word" = some (.ref a__law_word)
  k__law_word : PySem.W.keepIn K (.ref a__law_word) = true
  b__law_word : Binds K d__law_word ["_law_t", "_law_s", "_law_at", "_law_units"] []
  a__law_paid : Addr
  d__law_paid : FuncData
  F__law_paid : Fun K "_law_paid" "_law_paid" s__law_paid a__law_paid d__law_paid
  g__law_paid : mg "_law_paid" = some (.ref a__law_paid)
  k__law_paid : PySem.W.keepIn K (.ref a__law_paid) = true
  b__law_paid : Binds K d__law_paid ["_law_t", "_law_s", "_law_at", "_law_units"] []
  a__law_after : Addr
  d__law_after : FuncData
  F__law_after : Fun K "_law_after" "_law_after" s__law_after a__law_after d__law_after
  g__law_after : mg "_law_after" = some (.ref a__law_after)
  k__law_after : PySem.W.keepIn K (.ref a__law_after) = true
  b__law_after : Binds K d__law_after ["_law_t", "_law_s", "_law_event"] []
  a__law_can : Addr
  d__law_can : FuncData
  F__law_can : Fun K "_law_can" "_law_can" s__law_can a__law_can d__law_can
  g__law_can : mg "_law_can" = some (.ref a__law_can)
  k__law_can : PySem.W.keepIn K (.ref a__law_can) = true
  b__law_can : Binds K d__law_can ["_law_t", "_law_s", "_law_event"] []
  a__law_events : Addr
  d__law_events : FuncData
  F__law_events : Fun K "_law_events" "_law_events" s__law_events a__law_events d__law_events
  g__law_events : mg "_law_events" = some (.ref a__law_events)
  k__law_events : PySem.W.keepIn K (.ref a__law_events) = true
  b__law_events : Binds K d__law_events ["_law_t"] []
  a__law_choices : Addr
  d__law_choices : FuncData
  F__law_choices : Fun K "_law_choices" "_law_choices" s__law_choices a__law_choices d__law_choices
  g__law_choices : mg "_law_choices" = some (.ref a__law_choices)
  k__law_choices : PySem.W.keepIn K (.ref a__law_choices) = true
  b__law_choices : Binds K d__law_choices ["_law_t", "_law_s"] []
  a__law_steps : Addr
  d__law_steps : FuncData
  F__law_steps : Fun K "_law_steps" "_law_steps" s__law_steps a__law_steps d__law_steps
  g__law_steps : mg "_law_steps" = some (.ref a__law_steps)
  k__law_steps : PySem.W.keepIn K (.ref a__law_steps) = true
  b__law_steps : Binds K d__law_steps ["_law_t", "_law_s"] []
  a_Town_getitem : Addr
  d_Town_getitem : FuncData
  F_Town_getitem : Fun K "__getitem__" "Town.__getitem__" s_Town_getitem a_Town_getitem d_Town_getitem
  m_Town_getitem : Meth K c_Town "__getitem__" a_Town_getitem
  fi_Town_getitem : PySem.W.fnIn K a_Town_getitem = true
  b_Town_getitem : Binds K d_Town_getitem ["self", "at"] []
  a_Town_contains : Addr
  d_Town_contains : FuncData
  F_Town_contains : Fun K "__contains__" "Town.__contains__" s_Town_contains a_Town_contains d_Town_contains
  m_Town_contains : Meth K c_Town "__contains__" a_Town_contains
  b_Town_contains : Binds K d_Town_contains ["self", "x"] []
  a_Town_names : Addr
  d_Town_names : FuncData
  F_Town_names : Fun K "names" "Town.names" s_Town_names a_Town_names d_Town_names
  m_Town_names : Meth K c_Town "names" a_Town_names
  b_Town_names : Binds K d_Town_names ["self"] []
  a_joined_names : Addr
  d_joined_names : FuncData
  F_joined_names : Fun K "joined_names" "joined_names" s_joined_names a_joined_names d_joined_names
  g_joined_names : mg "joined_names" = some (.ref a_joined_names)
  k_joined_names : PySem.W.keepIn K (.ref a_joined_names) = true
  b_joined_names : Binds K d_joined_names ["names", "links", "name"] []
  a_Town_group : Addr
  d_Town_group : FuncData
  F_Town_group : Fun K "group" "Town.group" s_Town_group a_Town_group d_Town_group
  m_Town_group : Meth K c_Town "group" a_Town_group
  b_Town_group : Binds K d_Town_group ["self", "name"] []
  a_events_of : Addr
  d_events_of : FuncData
  F_events_of : Fun K "events_of" "events_of" s_events_of a_events_of d_events_of
  g_events_of : mg "events_of" = some (.ref a_events_of)
  k_events_of : PySem.W.keepIn K (.ref a_events_of) = true
  b_events_of : Binds K d_events_of ["town"] []
  a_most_remembered : Addr
  d_most_remembered : FuncData
  F_most_remembered : Fun K "most_remembered" "most_remembered" s_most_remembered a_most_remembered d_most_remembered
  g_most_remembered : mg "most_remembered" = some (.ref a_most_remembered)
  k_most_remembered : PySem.W.keepIn K (.ref a_most_remembered) = true
  b_most_remembered : Binds K d_most_remembered ["memory"] []
  a_Layout_init : Addr
  d_Layout_init : FuncData
  F_Layout_init : Fun K "__init__" "Layout.__init__" s_Layout_init a_Layout_init d_Layout_init
  mk_Layout : Mk K c_Layout a_Layout_init
  b_Layout_init : Binds K d_Layout_init ["self", "town"] []
  a_can_follow : Addr
  d_can_follow : FuncData
  F_can_follow : Fun K "can_follow" "can_follow" s_can_follow a_can_follow d_can_follow
  g_can_follow : mg "can_follow" = some (.ref a_can_follow)
  k_can_follow : PySem.W.keepIn K (.ref a_can_follow) = true
  b_can_follow : Binds K d_can_follow ["layout", "state", "event"] []
  a_is_stopped : Addr
  d_is_stopped : FuncData
  F_is_stopped : Fun K "is_stopped" "is_stopped" s_is_stopped a_is_stopped d_is_stopped
  g_is_stopped : mg "is_stopped" = some (.ref a_is_stopped)
  k_is_stopped : PySem.W.keepIn K (.ref a_is_stopped) = true
  b_is_stopped : Binds K d_is_stopped ["left", "lost"] []
  a_with_group : Addr
  d_with_group : FuncData
  F_with_group : Fun K "with_group" "with_group" s_with_group a_with_group d_with_group
  g_with_group : mg "with_group" = some (.ref a_with_group)
  k_with_group : PySem.W.keepIn K (.ref a_with_group) = true
  b_with_group : Binds K d_with_group ["row", "group", "value"] []
  a_with_item : Addr
  d_with_item : FuncData
  F_with_item : Fun K "with_item" "with_item" s_with_item a_with_item d_with_item
  g_with_item : mg "with_item" = some (.ref a_with_item)
  k_with_item : PySem.W.keepIn K (.ref a_with_item) = true
  b_with_item : Binds K d_with_item ["row", "at", "value"] []
  a_behind_cut : Addr
  d_behind_cut : FuncData
  F_behind_cut : Fun K "behind_cut" "behind_cut" s_behind_cut a_behind_cut d_behind_cut
  g_behind_cut : mg "behind_cut" = some (.ref a_behind_cut)
  k_behind_cut : PySem.W.keepIn K (.ref a_behind_cut) = true
  b_behind_cut : Binds K d_behind_cut ["layout", "state", "at"] []
  a_cut_to_tops : Addr
  d_cut_to_tops : FuncData
  F_cut_to_tops : Fun K "cut_to_tops" "cut_to_tops" s_cut_to_tops a_cut_to_tops d_cut_to_tops
  g_cut_to_tops : mg "cut_to_tops" = some (.ref a_cut_to_tops)
  k_cut_to_tops : PySem.W.keepIn K (.ref a_cut_to_tops) = true
  b_cut_to_tops : Binds K d_cut_to_tops ["left", "tops"] []
  a_behind_line : Addr
  d_behind_line : FuncData
  F_behind_line : Fun K "behind_line" "behind_line" s_behind_line a_behind_line d_behind_line
  g_behind_line : mg "behind_line" = some (.ref a_behind_line)
  k_behind_line : PySem.W.keepIn K (.ref a_behind_line) = true
  b_behind_line : Binds K d_behind_line ["layout", "state", "at"] []
  a_behind_loss : Addr
  d_behind_loss : FuncData
  F_behind_loss : Fun K "behind_loss" "behind_loss" s_behind_loss a_behind_loss d_behind_loss
  g_behind_loss : mg "behind_loss" = some (.ref a_behind_loss)
  k_behind_loss : PySem.W.keepIn K (.ref a_behind_loss) = true
  b_behind_loss : Binds K d_behind_loss ["state"] []
  a_to_remember : Addr
  d_to_remember : FuncData
  F_to_remember : Fun K "to_remember" "to_remember" s_to_remember a_to_remember d_to_remember
  g_to_remember : mg "to_remember" = some (.ref a_to_remember)
  k_to_remember : PySem.W.keepIn K (.ref a_to_remember) = true
  b_to_remember : Binds K d_to_remember ["layout", "units"] []
  a_takes_for_stopped : Addr
  d_takes_for_stopped : FuncData
  F_takes_for_stopped : Fun K "takes_for_stopped" "takes_for_stopped" s_takes_for_stopped a_takes_for_stopped d_takes_for_stopped
  g_takes_for_stopped : mg "takes_for_stopped" = some (.ref a_takes_for_stopped)
  k_takes_for_stopped : PySem.W.keepIn K (.ref a_takes_for_stopped) = true
  b_takes_for_stopped : Binds K d_takes_for_stopped ["layout", "state", "at"] []
  a_word_of_payment : Addr
  d_word_of_payment : FuncData
  F_word_of_payment : Fun K "word_of_payment" "word_of_payment" s_word_of_payment a_word_of_payment d_word_of_payment
  g_word_of_payment : mg "word_of_payment" = some (.ref a_word_of_payment)
  k_word_of_payment : PySem.W.keepIn K (.ref a_word_of_payment) = true
  b_word_of_payment : Binds K d_word_of_payment ["layout", "state", "at", "units"] []
  a_behind_payment : Addr
  d_behind_payment : FuncData
  F_behind_payment : Fun K "behind_payment" "behind_payment" s_behind_payment a_behind_payment d_behind_payment
  g_behind_payment : mg "behind_payment" = some (.ref a_behind_payment)
  k_behind_payment : PySem.W.keepIn K (.ref a_behind_payment) = true
  b_behind_payment : Binds K d_behind_payment ["layout", "state", "at", "units"] []
  a_behind_top : Addr
  d_behind_top : FuncData
  F_behind_top : Fun K "behind_top" "behind_top" s_behind_top a_behind_top d_behind_top
  g_behind_top : mg "behind_top" = some (.ref a_behind_top)
  k_behind_top : PySem.W.keepIn K (.ref a_behind_top) = true
  b_behind_top : Binds K d_behind_top ["state", "units"] []
  a_moved : Addr
  d_moved : FuncData
  F_moved : Fun K "moved" "moved" s_moved a_moved d_moved
  g_moved : mg "moved" = some (.ref a_moved)
  k_moved : PySem.W.keepIn K (.ref a_moved) = true
  b_moved : Binds K d_moved ["layout", "state", "event"] []
  a_steps_from : Addr
  d_steps_from : FuncData
  F_steps_from : Fun K "steps_from" "steps_from" s_steps_from a_steps_from d_steps_from
  g_steps_from : mg "steps_from" = some (.ref a_steps_from)
  k_steps_from : PySem.W.keepIn K (.ref a_steps_from) = true
  b_steps_from : Binds K d_steps_from ["layout", "state"] []
  a_steps : Addr
  d_steps : FuncData
  F_steps : Fun K "steps" "steps" s_steps a_steps d_steps
  g_steps : mg "steps" = some (.ref a_steps)
  k_steps : PySem.W.keepIn K (.ref a_steps) = true
  b_steps : Binds K d_steps ["town", "state"] []
  a_law : Addr
  d_law : FuncData
  F_law : Fun K "law" "law" s_law a_law d_law
  g_law : mg "law" = some (.ref a_law)
  k_law : PySem.W.keepIn K (.ref a_law) = true
  b_law : Binds K d_law ["_law_script"] []
  kb_Till_init_2_heeds : KBn K d_Till_init ["self", "name", "limit", "heeds"] 3 ["heeds"] (fun us ws => us ++ ws) (fun vs zs => vs ++ zs)
  kb_Town_init_1_links_money_memory_tops_numbered : KBn K d_Town_init ["self", "tills", "links", "money", "memory", "tops", "numbered"] 2 ["links", "money", "memory", "tops", "numbered"] (fun us ws => us ++ ws) (fun vs zs => vs ++ zs)
  no_abs : mg "abs" = none
  no_all : mg "all" = none
  no_any : mg "any" = none
  no_bool : mg "bool" = none
  no_enumerate : mg "enumerate" = none
  no_int : mg "int" = none
  no_isinstance : mg "isinstance" = none
  no_len : mg "len" = none
  no_list : mg "list" = none
  no_max : mg "max" = none
  no_min : mg "min" = none
  no_range : mg "range" = none
  no_sorted : mg "sorted" = none
  no_str : mg "str" = none
  no_sum : mg "sum" = none
  no_tuple : mg "tuple" = none
  t_LONGEST_NAME : Tok
  g_LONGEST_NAME : mg "LONGEST_NAME" = some (.int 8 t_LONGEST_NAME)
  t_MOST_TILLS : Tok
  g_MOST_TILLS : mg "MOST_TILLS" = some (.int 4 t_MOST_TILLS)
  t_MOST_TOPS : Tok
  g_MOST_TOPS : mg "MOST_TOPS" = some (.int 5 t_MOST_TOPS)
  t_TOP_LIMIT : Tok
  g_TOP_LIMIT : mg "TOP_LIMIT" = some (.int 9 t_TOP_LIMIT)
  t_TOP_MONEY : Tok
  g_TOP_MONEY : mg "TOP_MONEY" = some (.int 9 t_TOP_MONEY)
  t_TOP_REMEMBERED : Tok
  g_TOP_REMEMBERED : mg "TOP_REMEMBERED" = some (.int 9 t_TOP_REMEMBERED)
  w_UNITS : Addr
  g_UNITS : mg "UNITS" = some (.ref w_UNITS)
  q_UNITS : KTup K w_UNITS [.int 1, .int 2]
theorem Txt.r_LONGEST_NAME {K : PySem.W.Frag} {mg : Str → Option Value} (T : Txt K mg) : RelV (.int 8) (.int 8 T.t_LONGEST_NAME) := ⟨_, rfl⟩
theorem Txt.r_MOST_TILLS {K : PySem.W.Frag} {mg : Str → Option Value} (T : Txt K mg) : RelV (.int 4) (.int 4 T.t_MOST_TILLS) := ⟨_, rfl⟩
theorem Txt.r_MOST_TOPS {K : PySem.W.Frag} {mg : Str → Option Value} (T : Txt K mg) : RelV (.int 5) (.int 5 T.t_MOST_TOPS) := ⟨_, rfl⟩
theorem Txt.r_TOP_LIMIT {K : PySem.W.Frag} {mg : Str → Option Value} (T : Txt K mg) : RelV (.int 9) (.int 9 T.t_TOP_LIMIT) := ⟨_, rfl⟩
theorem Txt.r_TOP_MONEY {K : PySem.W.Frag} {mg : Str → Option Value} (T : Txt K mg) : RelV (.int 9) (.int 9 T.t_TOP_MONEY) := ⟨_, rfl⟩
theorem Txt.r_TOP_REMEMBERED {K : PySem.W.Frag} {mg : Str → Option Value} (T : Txt K mg) : RelV (.int 9) (.int 9 T.t_TOP_REMEMBERED) := ⟨_, rfl⟩
abbrev Txt.W {K : PySem.W.Frag} {mg : Str → Option Value} (T : Txt K mg) : Dm.W := { K := K, C := fun n => match n with | 0 => T.c_Till | 1 => T.c_Town | 2 => T.c_Layout | _ => 0, an := fun _ => "" }
end Toy
namespace Toy
open PySem PySem.Spec PyProof.Rows L2 Kx
section
open Dm
def m__law_first : Dm.Fn := mFn0 1 2 ((sSeq (sSet 1 (mCB gLen (mCons (frz (mOp gIx (mVar 0) (mC (.str "names")))) mNil)))
    (sRet (toC (mTup (mCons (frz (mOp gMul (mTup (mCons (mC (.bl true)) mNil)) (mVar 1))) (mCons (frz (mOp gMul (mTup (mCons (mC (.int 0)) mNil)) (mVar 1))) (mCons (frz (mOp gMul (mTup (mCons (mC (.bl false)) mNil)) (mVar 1))) (mCons (mC (.int 0)) (mCons (frz (mOp gIx (mVar 0) (mC (.str "money")))) (mCons (mC (.bl false)) (mCons (frz (mOp gIx (mVar 0) (mC (.str "tops")))) mNil))))))))))))
variable {P : Program} {w : World} {K : PySem.W.Frag} {mg : Str → Option Value} {base : Heap}
theorem ok__law_first (T : Txt K mg) : FnOk P w K mg base CX0 1 T.a__law_first T.d__law_first ["_law_t"] (spP T.W m__law_first) := by
  have nd := sc__law_first.nd
  refine T.F__law_first.ok sc__law_first (fun vs H Q E h => spP0_len (E := E) h) (fun cdv A outer s H vs Q E hr h => ?_)
  have hu := hu_of hr
  have hu65 := hu65_of hr
  exact ⟨_, (pss_cons (ps_set (i := 1) nd rfl (by first | exact Or.inl rfl | exact Or.inr rfl) (pe_callB (call_lenA (K := K) rfl) (by rfl) T.no_len (by decide +kernel) (pa_cons (pe_ix (ix_D (K := K) rfl hu) (pv 0) (pe_str) (fun _ _ => rfl)) pa_nil)))
      (pss_one (ps_ret (pe_tup (pa_cons (pe_op (op_mulD (K := K) rfl) (pe_tup (pa_cons (pe_bl) pa_nil)) (pv 1)) (pa_cons (pe_op (op_mulD (K := K) rfl) (pe_tup (pa_cons (pe_int) pa_nil)) (pv 1)) (pa_cons (pe_op (op_mulD (K := K) rfl) (pe_tup (pa_cons (pe_bl) pa_nil)) (pv 1)) (pa_cons (pe_int) (pa_cons (pe_ix (ix_D (K := K) rfl hu) (pv 0) (pe_str) (fun _ _ => rfl)) (pa_cons (pe_bl) (pa_cons (pe_ix (ix_D (K := K) rfl hu) (pv 0) (pe_str) (fun _ _ => rfl)) pa_nil))))))))))), fnP0 rfl (ds_seq (ds_set (i := 1) (de_cb db_len (da_cons (DE.dv (de_op d2_ix dv_var dv_str)) da_nil)))
      (ds_ret (DV.de (dv_tup (da_cons (DE.dv (de_op d2_mul (dv_tup (da_cons dv_bl da_nil)) dv_var)) (da_cons (DE.dv (de_op d2_mul (dv_tup (da_cons dv_int da_nil)) dv_var)) (da_cons (DE.dv (de_op d2_mul (dv_tup (da_cons dv_bl da_nil)) dv_var)) (da_cons dv_int (da_cons (DE.dv (de_op d2_ix dv_var dv_str)) (da_cons dv_bl (da_cons (DE.dv (de_op d2_ix dv_var dv_str)) da_nil))))))))))) h⟩
end
end Toy
namespace Toy
open PySem PySem.Spec PyProof.Rows L2 Kx
section
open Dm
def m_is_integer : Dm.Fn := mFn0 1 1 ((sRet (toC (mAndV (frz (mIsi "int" (mVar 0))) (mNotV (frz (mIsi "bool" (mVar 0))))))))
variable {P : Program} {w : World} {K : PySem.W.Frag} {mg : Str → Option Value} {base : Heap}
theorem ok_is_integer (T : Txt K mg) : FnOk P w K mg base CX0 1 T.a_is_integer T.d_is_integer ["value"] (spP T.W m_is_integer) := by
  have nd := sc_is_integer.nd
  refine T.F_is_integer.ok sc_is_integer (fun vs H Q E h => spP0_len (E := E) h) (fun cdv A outer s H vs Q E hr h => ?_)
  have hu := hu_of hr
  have hu65 := hu65_of hr
  exact ⟨_, (pss_one (ps_ret (pe_and (pe_callB (call_isiA (K := K) rfl) (by rfl) T.no_isinstance (by decide +kernel) (pa_cons (pv 0) (pa_cons (pe_bltn (v := .ty "int") (u := .type "int") (by rfl) T.no_int (by decide +kernel) rfl) pa_nil))) (pe_one (pe_not (pe_callB (call_isiA (K := K) rfl) (by rfl) T.no_isinstance (by decide +kernel) (pa_cons (pv 0) (pa_cons (pe_bltn (v := .ty "bool") (u := .type "bool") (by rfl) T.no_bool (by decide +kernel) rfl) pa_nil)))))))), fnP0 rfl (ds_ret (DV.de (dv_andV (DE.dv (de_isi (T := "int") (by decide) dv_var)) (dv_notV (DE.dv (de_isi (T := "bool") (by decide) dv_var)))))) h⟩
end
end Toy
namespace Toy
open PySem PySem.Spec PyProof.Rows L2 Kx
section
open Dm
def m_is_integer_to : Dm.Fn := mFn0 2 2 ((sRet (toC (mAndV (frz (mCall m_is_integer (mCons (mVar 0) mNil))) (mChain gLe gLe (mC (.int 0)) (mVar 0) (mVar 1))))))
variable {P : Program} {w : World} {K : PySem.W.Frag} {mg : Str → Option Value} {base : Heap}
theorem ok_is_integer_to (T : Txt K mg) : FnOk P w K mg base CX0 2 T.a_is_integer_to T.d_is_integer_to ["value", "top"] (spP T.W m_is_integer_to) := by
  have nd := sc_is_integer_to.nd
  refine T.F_is_integer_to.ok sc_is_integer_to (fun vs H Q E h => spP0_len (E := E) h) (fun cdv A outer s H vs Q E hr h => ?_)
  have hu := hu_of hr
  have hu65 := hu65_of hr
  exact ⟨_, (pss_one (ps_ret (pe_and (pe_call (ok_is_integer T) (hr.mono (by decide)) rfl T.g_is_integer T.k_is_integer T.b_is_integer .nil pass0 (pa_cons (pv 0) pa_nil)) (pe_one (pe_chain op_leD op_leD (pe_int) (pv 0) (pv 1)))))), fnP0 rfl (ds_ret (DV.de (dv_andV (DE.dv (de_call (da_cons dv_var da_nil))) (dv_chain d2_le d2_le dv_int dv_var dv_var)))) h⟩
end
end Toy
namespace Toy
open PySem PySem.Spec PyProof.Rows L2 Kx
section
open Dm
def m_is_limit : Dm.Fn := mFn0 1 1 ((sRet (mCall m_is_integer_to (mCons (mVar 0) (mCons (mC (.int 9)) mNil)))))
variable {P : Program} {w : World} {K : PySem.W.Frag} {mg : Str → Option Value} {base : Heap}
theorem ok_is_limit (T : Txt K mg) : FnOk P w K mg base CX0 3 T.a_is_limit T.d_is_limit ["value"] (spP T.W m_is_limit) := by
  have nd := sc_is_limit.nd
  refine T.F_is_limit.ok sc_is_limit (fun vs H Q E h => spP0_len (E := E) h) (fun cdv A outer s H vs Q E hr h => ?_)
  have hu := hu_of hr
  have hu65 := hu65_of hr
  exact ⟨_, (pss_one (ps_ret (pe_call (ok_is_integer_to T) (hr.mono (by decide)) rfl T.g_is_integer_to T.k_is_integer_to T.b_is_integer_to .nil pass0 (pa_cons (pv 0) (pa_cons (pe_glob rfl T.g_TOP_LIMIT T.r_TOP_LIMIT) pa_nil))))), fnP0 rfl (ds_ret (de_call (da_cons dv_var (da_cons dv_int da_nil)))) h⟩
end
end Toy
namespace Toy
open PySem PySem.Spec PyProof.Rows L2 Kx
section
open Dm
def m_is_name : Dm.Fn := mFn0 1 2 ((sSeq (sIf (mOr (mNot (mTest (frz (mIsi "str" (mVar 0))))) (mNot (mTest (mChain gLe gLe (mC (.int 1)) (frz (mCB gLen (mCons (mVar 0) mNil))) (mC (.int 8)))))) (sRet (toC (mC (.bl false)))) sNx)
    (sRet (mCB gAll (mCons (frz (mLc (itSeq (mVar 0)) [1] (tgN 1) mYes (mChain gLe gLe (mC (.str "a")) (mVar 1) (mC (.str "z"))))) mNil)))))
variable {P : Program} {w : World} {K : PySem.W.Frag} {mg : Str → Option Value} {base : Heap}
theorem ok_is_name (T : Txt K mg) : FnOk P w K mg base CX0 1 T.a_is_name T.d_is_name ["value"] (spP T.W m_is_name) := by
  have nd := sc_is_name.nd
  refine T.F_is_name.ok sc_is_name (fun vs H Q E h => spP0_len (E := E) h) (fun cdv A outer s H vs Q E hr h => ?_)
  have hu := hu_of hr
  have hu65 := hu65_of hr
  exact ⟨_, (pss_cons (ps_if (PW.pt (pw_or (pt_not (pt_val (pe_callB (call_isiA (K := K) rfl) (by rfl) T.no_isinstance (by decide +kernel) (pa_cons (pv 0) (pa_cons (pe_bltn (v := .ty "str") (u := .type "str") (by rfl) T.no_str (by decide +kernel) rfl) pa_nil))))) (pw_or1 (pt_not (pt_chain op_leD op_leD (pe_int) (pe_callB (call_lenA (K := K) rfl) (by rfl) T.no_len (by decide +kernel) (pa_cons (pv 0) pa_nil)) (pe_glob rfl T.g_LONGEST_NAME T.r_LONGEST_NAME)))))) (pss_one (ps_ret (pe_bl))) pss_nil)
      (pss_one (ps_ret (pe_callB (call_allA (K := K) rfl rfl) (by rfl) T.no_all (by decide +kernel) (pa_cons (pe_lc (own := [("letter", 1)]) rfl nd (pi_seq (K := K) rfl (pv 0)) (blkOk_by (N := ["value", "letter"]) (sc := defScope s_is_name) (by decide +kernel)) (fun _ _ _ _ _ => (pg_name (i := 1) nd rfl (by first | exact Or.inl rfl | exact Or.inr rfl))) (fun _ _ _ _ _ => pts_nil) (fun _ _ _ _ _ => (pe_chain op_leD op_leD (pe_str) (pv 1) (pe_str)))) pa_nil))))), fnP0 rfl (ds_seq (ds_if (dt_or (dt_not (dt_B (DE.dv (de_isi (T := "str") (by decide) dv_var)))) (dt_not (dt_test (dv_chain d2_le d2_le dv_int (DE.dv (de_cb db_len (da_cons dv_var da_nil))) dv_int)))) (ds_ret (DV.de dv_bl)) ds_next)
      (ds_ret (de_cb db_all (da_cons (DE.dv (de_lc (vs := [1]) (di_seq dv_var) dg_nameG dt_yesG (dv_chain d2_le d2_le dv_str dv_var dv_str) (by decide))) da_nil)))) h⟩
end
end Toy
namespace Toy
open PySem PySem.Spec PyProof.Rows L2 Kx
section
open Dm
def m_is_truth : Dm.Fn := mFn0 1 1 ((sRet (mIsi "bool" (mVar 0))))
variable {P : Program} {w : World} {K : PySem.W.Frag} {mg : Str → Option Value} {base : Heap}
theorem ok_is_truth (T : Txt K mg) : FnOk P w K mg base CX0 1 T.a_is_truth T.d_is_truth ["value"] (spP T.W m_is_truth) := by
  have nd := sc_is_truth.nd
  refine T.F_is_truth.ok sc_is_truth (fun vs H Q E h => spP0_len (E := E) h) (fun cdv A outer s H vs Q E hr h => ?_)
  have hu := hu_of hr
  have hu65 := hu65_of hr
  exact ⟨_, (pss_one (ps_ret (pe_callB (call_isiA (K := K) rfl) (by rfl) T.no_isinstance (by decide +kernel) (pa_cons (pv 0) (pa_cons (pe_bltn (v := .ty "bool") (u := .type "bool") (by rfl) T.no_bool (by decide +kernel) rfl) pa_nil))))), fnP0 rfl (ds_ret (de_isi (T := "bool") (by decide) dv_var)) h⟩
end
end Toy
namespace Toy
open PySem PySem.Spec PyProof.Rows L2 Kx
section
open Dm
def m_Till_init : Dm.FnI := mFnI0 4 4 ((sSeq (sIf (mNot (mTest (frz (mCall m_is_name (mCons (mVar 1) mNil))))) sNever sNx)
    (sSeq (sIf (mNot (mTest (frz (mCall m_is_limit (mCons (mVar 2) mNil))))) sNever sNx)
    (sSeq (sIf (mNot (mTest (frz (mCall m_is_truth (mCons (mVar 3) mNil))))) sNever sNx)
    (sSeq (sFldPut [0] 0 "name" (mVar 1))
    (sSeq (sFldPut [0] 0 "limit" (mVar 2))
    (sFldPut [0] 0 "heeds" (mVar 3))))))))
variable {P : Program} {w : World} {K : PySem.W.Frag} {mg : Str → Option Value} {base : Heap}
theorem ok_Till_init (T : Txt K mg) : FnOk P w K mg base CX0 4 T.a_Till_init T.d_Till_init ["self", "name", "limit", "heeds"] (spI T.W m_Till_init) := by
  have nd := sc_Till_init.nd
  refine T.F_Till_init.ok sc_Till_init (fun vs H Q E h => spI0_len (E := E) h) (fun cdv A outer s H vs Q E hr h => ?_)
  have hu := hu_of hr
  have hu65 := hu65_of hr
  exact ⟨_, (pss_cons (ps_if (pt_not (pt_val (pe_call (ok_is_name T) (hr.mono (by decide)) rfl T.g_is_name T.k_is_name T.b_is_name .nil pass0 (pa_cons (pv 1) pa_nil)))) (pss_one (ps_never)) pss_nil)
      (pss_cons (ps_if (pt_not (pt_val (pe_call (ok_is_limit T) (hr.mono (by decide)) rfl T.g_is_limit T.k_is_limit T.b_is_limit .nil pass0 (pa_cons (pv 2) pa_nil)))) (pss_one (ps_never)) pss_nil)
      (pss_cons (ps_if (pt_not (pt_val (pe_call (ok_is_truth T) (hr.mono (by decide)) rfl T.g_is_truth T.k_is_truth T.b_is_truth .nil pass0 (pa_cons (pv 3) pa_nil)))) (pss_one (ps_never)) pss_nil)
      (pss_cons (ps_fld (pv 0) (pv 1) rfl)
      (pss_cons (ps_fld (pv 0) (pv 2) rfl)
      (pss_one (ps_fld (pv 0) (pv 3) rfl))))))), fnI0 rfl (ds_seq (ds_if (dt_not (dt_B (DE.dv (de_call (da_cons dv_var da_nil))))) ds_neverG ds_next)
      (ds_seq (ds_if (dt_not (dt_B (DE.dv (de_call (da_cons dv_var da_nil))))) ds_neverG ds_next)
      (ds_seq (ds_if (dt_not (dt_B (DE.dv (de_call (da_cons dv_var da_nil))))) ds_neverG ds_next)
      (ds_seq (ds_fldput (cs := [0]) (i := 0) (List.forall_mem_cons.mpr ⟨⟨T.cl_Till, T.n_Till_name⟩, List.forall_mem_nil _⟩) dv_var)
      (ds_seq (ds_fldput (cs := [0]) (i := 0) (List.forall_mem_cons.mpr ⟨⟨T.cl_Till, T.n_Till_limit⟩, List.forall_mem_nil _⟩) dv_var)
      (ds_fldput (cs := [0]) (i := 0) (List.forall_mem_cons.mpr ⟨⟨T.cl_Till, T.n_Till_heeds⟩, List.forall_mem_nil _⟩) dv_var)))))) h⟩
end
end Toy
namespace Toy
open PySem PySem.Spec PyProof.Rows L2 Kx
section
open Dm
def m_ascending_links : Dm.Fn := mFn0 2 6 ((sSeq (sSet 2 (mCB gSorted (mCons (frz (mLc (itSeq (mVar 0)) [3] (tgN 3) mYes (frz (mCB gStr (mCons (mVar 3) mNil))))) mNil)))
    (sRet (mCB gTuple (mCons (frz (mLc2 (itSeq (mVar 2)) [4, 5] [5] (tgN 4) mYes (itSeq (mVar 2)) (tgN 5) (mTest (frz (mOp gIn (mTup (mCons (mVar 4) (mCons (mVar 5) mNil))) (mVar 1)))) (mTup (mCons (mVar 4) (mCons (mVar 5) mNil))))) mNil)))))
variable {P : Program} {w : World} {K : PySem.W.Frag} {mg : Str → Option Value} {base : Heap}
theorem ok_ascending_links (T : Txt K mg) : FnOk P w K mg base CX0 1 T.a_ascending_links T.d_ascending_links ["names", "links"] (spP T.W m_ascending_links) := by
  have nd := sc_ascending_links.nd
  refine T.F_ascending_links.ok sc_ascending_links (fun vs H Q E h => spP0_len (E := E) h) (fun cdv A outer s H vs Q E hr h => ?_)
  have hu := hu_of hr
  have hu65 := hu65_of hr
  exact ⟨_, (pss_cons (ps_set (i := 2) nd rfl (by first | exact Or.inl rfl | exact Or.inr rfl) (pe_callB (call_sortA (K := K) rfl) (by rfl) T.no_sorted (by decide +kernel) (pa_cons (pe_lc (own := [("name", 3)]) rfl nd (pi_seq (K := K) rfl (pv 0)) (blkOk_by (N := ["names", "links", "ordered", "name", "one", "other"]) (sc := defScope s_ascending_links) (by decide +kernel)) (fun _ _ _ _ _ => (pg_name (i := 3) nd rfl (by first | exact Or.inl rfl | exact Or.inr rfl))) (fun _ _ _ _ _ => pts_nil) (fun _ _ _ _ _ => (pe_callTy call_strA (by rfl) T.no_str (by decide +kernel) (pa_cons (pv 3) pa_nil)))) pa_nil)))
      (pss_one (ps_ret (pe_callTy (call_tupA (K := K) rfl) (by rfl) T.no_tuple (by decide +kernel) (pa_cons (pe_lc2 (own := [("one", 4), ("other", 5)]) (vs1 := [5]) rfl nd (pi_seq (K := K) rfl (pv 2)) (blkOk_by (N := ["names", "links", "ordered", "name", "one", "other"]) (sc := defScope s_ascending_links) (by decide +kernel)) (by decide) (fun _ _ _ _ _ => (pg_name (i := 4) nd rfl (by first | exact Or.inl rfl | exact Or.inr rfl))) (fun _ _ _ _ _ => pts_nil) (fun _ _ _ _ _ => (pi_seq (K := K) rfl (pv 2))) (fun _ _ _ _ _ => (pg_name (i := 5) nd rfl (by first | exact Or.inl rfl | exact Or.inr rfl))) (fun _ _ _ _ _ => pts_one (pt_cmpR (op_inK (K := K) rfl hu65) (pe_tup (pa_cons (pv 4) (pa_cons (pv 5) pa_nil))) (pv 1) (by rfl))) (fun _ _ _ _ _ => (pe_tup (pa_cons (pv 4) (pa_cons (pv 5) pa_nil))))) pa_nil))))), fnP0 rfl (ds_seq (ds_set (i := 2) (de_cb db_sorted (da_cons (DE.dv (de_lc (vs := [3]) (di_seq dv_var) dg_nameG dt_yesG (DE.dv (de_cb db_str (da_cons dv_var da_nil))) (by decide))) da_nil)))
      (ds_ret (de_cb db_tuple (da_cons (DE.dv (de_lc2 (vs := [4, 5]) (vs1 := [5]) (di_seq dv_var) dg_nameG dt_yesG (di_seq dv_var) dg_nameG (dt_test (DE.dv (de_op d2_in (dv_tup (da_cons dv_var (da_cons dv_var da_nil))) dv_var))) (dv_tup (da_cons dv_var (da_cons dv_var da_nil))) (by decide) (by decide) (by decide))) da_nil)))) h⟩
end
end Toy
namespace Toy
open PySem PySem.Spec PyProof.Rows L2 Kx
section
open Dm
def m_is_link : Dm.Fn := mFn0 2 4 ((sSeq (sIf (mOr (mNot (mTest (frz (mIsi "tuple" (mVar 1))))) (mTest (frz (mOp gNe (frz (mCB gLen (mCons (mVar 1) mNil))) (mC (.int 2)))))) (sRet (toC (mC (.bl false)))) sNx)
    (sSeq (sUn (unD 2 (tgCons (tgN 2) (tgCons (tgN 3) tgNil))) (mVar 1))
    (sSeq (sIf (mOr (mNot (mTest (frz (mCall m_is_name (mCons (mVar 2) mNil))))) (mNot (mTest (frz (mCall m_is_name (mCons (mVar 3) mNil)))))) (sRet (toC (mC (.bl false)))) sNx)
    (sRet (toC (mAndV (frz (mOp gIn (mVar 2) (mVar 0))) (mAndV (frz (mOp gIn (mVar 3) (mVar 0))) (frz (mOp gLtD (mVar 2) (mVar 3)))))))))))
variable {P : Program} {w : World} {K : PySem.W.Frag} {mg : Str → Option Value} {base : Heap}
theorem ok_is_link (T : Txt K mg) : FnOk P w K mg base CX0 2 T.a_is_link T.d_is_link ["names", "value"] (spP T.W m_is_link) := by
  have nd := sc_is_link.nd
  refine T.F_is_link.ok sc_is_link (fun vs H Q E h => spP0_len (E := E) h) (fun cdv A outer s H vs Q E hr h => ?_)
  have hu := hu_of hr
  have hu65 := hu65_of hr
  exact ⟨_, (pss_cons (ps_if (PW.pt (pw_or (pt_not (pt_val (pe_callB (call_isiA (K := K) rfl) (by rfl) T.no_isinstance (by decide +kernel) (pa_cons (pv 1) (pa_cons (pe_bltn (v := .ty "tuple") (u := .type "tuple") (by rfl) T.no_tuple (by decide +kernel) rfl) pa_nil))))) (pw_or1 (pt_cmpR (op_neK (K := K) rfl hr.units) (pe_callB (call_lenA (K := K) rfl) (by rfl) T.no_len (by decide +kernel) (pa_cons (pv 1) pa_nil)) (pe_int) (nomark _))))) (pss_one (ps_ret (pe_bl))) pss_nil)
      (pss_cons (ps_asg (pv 1) (pg_un (K := K) rfl 2 rfl (pgs_cons (pg_name (i := 2) nd rfl (by first | exact Or.inl rfl | exact Or.inr rfl)) (pgs_cons (pg_name (i := 3) nd rfl (by first | exact Or.inl rfl | exact Or.inr rfl)) pgs_nil))))
      (pss_cons (ps_if (PW.pt (pw_or (pt_not (pt_val (pe_call (ok_is_name T) (hr.mono (by decide)) rfl T.g_is_name T.k_is_name T.b_is_name .nil pass0 (pa_cons (pv 2) pa_nil)))) (pw_or1 (pt_not (pt_val (pe_call (ok_is_name T) (hr.mono (by decide)) rfl T.g_is_name T.k_is_name T.b_is_name .nil pass0 (pa_cons (pv 3) pa_nil))))))) (pss_one (ps_ret (pe_bl))) pss_nil)
      (pss_one (ps_ret (pe_and (pe_cmpR (op_inK (K := K) rfl hu65) (pv 2) (pv 0) (by rfl)) (pe_and (pe_cmpR (op_inK (K := K) rfl hu65) (pv 3) (pv 0) (by rfl)) (pe_one (pe_cmpR op_ltD (pv 2) (pv 3) (nomark _)))))))))), fnP0 rfl (ds_seq (ds_if (dt_or (dt_not (dt_B (DE.dv (de_isi (T := "tuple") (by decide) dv_var)))) (dt_test (DE.dv (de_op d2_ne (DE.dv (de_cb db_len (da_cons dv_var da_nil))) dv_int)))) (ds_ret (DV.de dv_bl)) ds_next)
      (ds_seq (ds_un dv_var (dg_un (dgs_consG dg_nameG (dgs_consG dg_nameG dgs_nilG))))
      (ds_seq (ds_if (dt_or (dt_not (dt_B (DE.dv (de_call (da_cons dv_var da_nil))))) (dt_not (dt_B (DE.dv (de_call (da_cons dv_var da_nil)))))) (ds_ret (DV.de dv_bl)) ds_next)
      (ds_ret (DV.de (dv_andV (DE.dv (de_op d2_in dv_var dv_var)) (dv_andV (DE.dv (de_op d2_in dv_var dv_var)) (DE.dv (de_op d2_lt dv_var dv_var))))))))) h⟩
end
end Toy
namespace Toy
open PySem PySem.Spec PyProof.Rows L2 Kx
section
open Dm
def m_is_list : Dm.Fn := mFn0 1 1 ((sRet (mIsi2 "list" "tuple" (mVar 0))))
variable {P : Program} {w : World} {K : PySem.W.Frag} {mg : Str → Option Value} {base : Heap}
theorem ok_is_list (T : Txt K mg) : FnOk P w K mg base CX0 1 T.a_is_list T.d_is_list ["value"] (spP T.W m_is_list) := by
  have nd := sc_is_list.nd
  refine T.F_is_list.ok sc_is_list (fun vs H Q E h => spP0_len (E := E) h) (fun cdv A outer s H vs Q E hr h => ?_)
  have hu := hu_of hr
  have hu65 := hu65_of hr
  exact ⟨_, (pss_one (ps_ret (pe_callB (call_isiTA (K := K) rfl) (by rfl) T.no_isinstance (by decide +kernel) (pa_cons (pv 0) (pa_cons (pe_tup (pa_cons (pe_bltn (v := .ty "list") (u := .type "list") (by rfl) T.no_list (by decide +kernel) rfl) (pa_cons (pe_bltn (v := .ty "tuple") (u := .type "tuple") (by rfl) T.no_tuple (by decide +kernel) rfl) pa_nil))) pa_nil))))), fnP0 rfl (ds_ret (de_isi2 (T := "list") (U := "tuple") (by decide) (by decide) dv_var)) h⟩
end
end Toy
namespace Toy
open PySem PySem.Spec PyProof.Rows L2 Kx
section
open Dm
def m_check_links : Dm.Fn := mFn0 2 5 ((sSeq (sIf (mNot (mTest (frz (mCall m_is_list (mCons (mVar 1) mNil))))) sNever sNx)
    (sSeq (sSet 2 (mDNew 1))
    (sFor (itEnum (mCons (mVar 1) mNil)) (unD 2 (tgCons (tgN 3) (tgCons (tgN 4) tgNil))) (sSeq (sIf (mPeek (fun _ => true) (mOr (mNot (mTest (frz (mCall m_is_link (mCons (mVar 0) (mCons (mVar 4) mNil)))))) (mTest (frz (mOp gIn (mVar 4) (mVar 2)))))) sNever sNx)
    (sPut 2 (mVar 4) (mC (.bl true))))))))
variable {P : Program} {w : World} {K : PySem.W.Frag} {mg : Str → Option Value} {base : Heap}
theorem ok_check_links (T : Txt K mg) : FnOk P w K mg base CX0 3 T.a_check_links T.d_check_links ["names", "links"] (spP T.W m_check_links) := by
  have nd := sc_check_links.nd
  refine T.F_check_links.ok sc_check_links (fun vs H Q E h => spP0_len (E := E) h) (fun cdv A outer s H vs Q E hr h => ?_)
  have hu := hu_of hr
  have hu65 := hu65_of hr
  exact ⟨_, (pss_cons (ps_if (pt_not (pt_val (pe_call (ok_is_list T) (hr.mono (by decide)) rfl T.g_is_list T.k_is_list T.b_is_list .nil pass0 (pa_cons (pv 1) pa_nil)))) (pss_one (ps_never)) pss_nil)
      (pss_cons (ps_set (i := 2) nd rfl (by first | exact Or.inl rfl | exact Or.inr rfl) (pe_dnewT))
      (pss_one (ps_for PassesOwn.never rfl (PI_or (pi_enum (by rfl) T.no_enumerate (pa_cons (pv 1) pa_nil)) (Kx.pi_enumT (by rfl) T.no_enumerate (pa_cons (pv 1) pa_nil))) (pg_un (K := K) rfl 2 rfl (pgs_cons (pg_name (i := 3) nd rfl (by first | exact Or.inl rfl | exact Or.inr rfl)) (pgs_cons (pg_name (i := 4) nd rfl (by first | exact Or.inl rfl | exact Or.inr rfl)) pgs_nil))) (pss_cons (ps_if (PW.pt (pw_or (pt_not (pt_val (pe_call (ok_is_link T) (hr.mono (by decide)) rfl T.g_is_link T.k_is_link T.b_is_link .nil pass0 (pa_cons (pv 0) (pa_cons (pv 4) pa_nil))))) (pw_or1 (pt_cmpR (op_inK (K := K) rfl hu65) (pv 4) (pv 2) (by rfl))))) (pss_one (ps_never)) pss_nil)
      (pss_one (ps_asg (pe_bl) (pg_sub (pv 2) (pv 4) (set_A hu))))))))), fnP0 rfl (ds_seq (ds_if (dt_not (dt_B (DE.dv (de_call (da_cons dv_var da_nil))))) ds_neverG ds_next)
      (ds_seq (ds_set (i := 2) de_dnewT)
      (ds_for (di_enum (da_cons dv_var da_nil)) (dg_un (dgs_consG dg_nameG (dgs_consG dg_nameG dgs_nilG))) (ds_seq (ds_if (dt_peek (dt_or (dt_not (dt_B (DE.dv (de_call (da_cons dv_var (da_cons dv_var da_nil)))))) (dt_test (DE.dv (de_op d2_in dv_var dv_var))))) ds_neverG ds_next)
      (ds_put (i := 2) dv_var dv_bl))))) h⟩
end
end Toy
namespace Toy
open PySem PySem.Spec PyProof.Rows L2 Kx
section
open Dm
def m_is_word : Dm.Fn := mFn0 2 2 ((sRet (toC (mAndV (frz (mIsi "str" (mVar 0))) (frz (mOp gEq (mVar 0) (mVar 1)))))))
variable {P : Program} {w : World} {K : PySem.W.Frag} {mg : Str → Option Value} {base : Heap}
theorem ok_is_word (T : Txt K mg) : FnOk P w K mg base CX0 1 T.a_is_word T.d_is_word ["value", "word"] (spP T.W m_is_word) := by
  have nd := sc_is_word.nd
  refine T.F_is_word.ok sc_is_word (fun vs H Q E h => spP0_len (E := E) h) (fun cdv A outer s H vs Q E hr h => ?_)
  have hu := hu_of hr
  have hu65 := hu65_of hr
  exact ⟨_, (pss_one (ps_ret (pe_and (pe_callB (call_isiA (K := K) rfl) (by rfl) T.no_isinstance (by decide +kernel) (pa_cons (pv 0) (pa_cons (pe_bltn (v := .ty "str") (u := .type "str") (by rfl) T.no_str (by decide +kernel) rfl) pa_nil))) (pe_one (pe_cmpR (op_eqK (K := K) rfl hr.units) (pv 0) (pv 1) (nomark _)))))), fnP0 rfl (ds_ret (DV.de (dv_andV (DE.dv (de_isi (T := "str") (by decide) dv_var)) (DE.dv (de_op d2_eq dv_var dv_var))))) h⟩
end
end Toy
namespace Toy
open PySem PySem.Spec PyProof.Rows L2 Kx
section
open Dm
def m_is_memory : Dm.Fn := mFn0 1 3 ((sSeq (sIf (mOr (mNot (mTest (frz (mIsi "tuple" (mVar 0))))) (mNot (mTest (mChain gLe gLe (mC (.int 1)) (frz (mCB gLen (mCons (mVar 0) mNil))) (mC (.int 2)))))) (sRet (toC (mC (.bl false)))) sNx)
    (sSeq (sIf (mTest (frz (mOp gEq (frz (mCB gLen (mCons (mVar 0) mNil))) (mC (.int 1))))) (sRet (mCall m_is_word (mCons (frz (mOp gIx (mVar 0) (mC (.int 0)))) (mCons (mC (.str "nothing")) mNil)))) sNx)
    (sSeq (sUn (unD 2 (tgCons (tgN 1) (tgCons (tgN 2) tgNil))) (mVar 0))
    (sRet (toC (mAndV (mOrV (frz (mCall m_is_word (mCons (mVar 1) (mCons (mC (.str "times")) mNil)))) (frz (mCall m_is_word (mCons (mVar 1) (mCons (mC (.str "sum")) mNil))))) (frz (mCall m_is_integer_to (mCons (mVar 2) (mCons (mC (.int 9)) mNil)))))))))))
variable {P : Program} {w : World} {K : PySem.W.Frag} {mg : Str → Option Value} {base : Heap}
theorem ok_is_memory (T : Txt K mg) : FnOk P w K mg base CX0 3 T.a_is_memory T.d_is_memory ["value"] (spP T.W m_is_memory) := by
  have nd := sc_is_memory.nd
  refine T.F_is_memory.ok sc_is_memory (fun vs H Q E h => spP0_len (E := E) h) (fun cdv A outer s H vs Q E hr h => ?_)
  have hu := hu_of hr
  have hu65 := hu65_of hr
  exact ⟨_, (pss_cons (ps_if (PW.pt (pw_or (pt_not (pt_val (pe_callB (call_isiA (K := K) rfl) (by rfl) T.no_isinstance (by decide +kernel) (pa_cons (pv 0) (pa_cons (pe_bltn (v := .ty "tuple") (u := .type "tuple") (by rfl) T.no_tuple (by decide +kernel) rfl) pa_nil))))) (pw_or1 (pt_not (pt_chain op_leD op_leD (pe_int) (pe_callB (call_lenA (K := K) rfl) (by rfl) T.no_len (by decide +kernel) (pa_cons (pv 0) pa_nil)) (pe_int)))))) (pss_one (ps_ret (pe_bl))) pss_nil)
      (pss_cons (ps_if (pt_cmpR (op_eqK (K := K) rfl hr.units) (pe_callB (call_lenA (K := K) rfl) (by rfl) T.no_len (by decide +kernel) (pa_cons (pv 0) pa_nil)) (pe_int) (nomark _)) (pss_one (ps_ret (pe_call (ok_is_word T) (hr.mono (by decide)) rfl T.g_is_word T.k_is_word T.b_is_word .nil pass0 (pa_cons (pe_ix (ix_D (K := K) rfl hu) (pv 0) (pe_int) (fun _ _ => rfl)) (pa_cons (pe_str) pa_nil))))) pss_nil)
      (pss_cons (ps_asg (pv 0) (pg_un (K := K) rfl 2 rfl (pgs_cons (pg_name (i := 1) nd rfl (by first | exact Or.inl rfl | exact Or.inr rfl)) (pgs_cons (pg_name (i := 2) nd rfl (by first | exact Or.inl rfl | exact Or.inr rfl)) pgs_nil))))
      (pss_one (ps_ret (pe_and (pe_or (pe_call (ok_is_word T) (hr.mono (by decide)) rfl T.g_is_word T.k_is_word T.b_is_word .nil pass0 (pa_cons (pv 1) (pa_cons (pe_str) pa_nil))) (pe_one (pe_call (ok_is_word T) (hr.mono (by decide)) rfl T.g_is_word T.k_is_word T.b_is_word .nil pass0 (pa_cons (pv 1) (pa_cons (pe_str) pa_nil))))) (pe_one (pe_call (ok_is_integer_to T) (hr.mono (by decide)) rfl T.g_is_integer_to T.k_is_integer_to T.b_is_integer_to .nil pass0 (pa_cons (pv 2) (pa_cons (pe_glob rfl T.g_TOP_REMEMBERED T.r_TOP_REMEMBERED) pa_nil)))))))))), fnP0 rfl (ds_seq (ds_if (dt_or (dt_not (dt_B (DE.dv (de_isi (T := "tuple") (by decide) dv_var)))) (dt_not (dt_test (dv_chain d2_le d2_le dv_int (DE.dv (de_cb db_len (da_cons dv_var da_nil))) dv_int)))) (ds_ret (DV.de dv_bl)) ds_next)
      (ds_seq (ds_if (dt_test (DE.dv (de_op d2_eq (DE.dv (de_cb db_len (da_cons dv_var da_nil))) dv_int))) (ds_ret (de_call (da_cons (DE.dv (de_op d2_ix dv_var dv_int)) (da_cons dv_str da_nil)))) ds_next)
      (ds_seq (ds_un dv_var (dg_un (dgs_consG dg_nameG (dgs_consG dg_nameG dgs_nilG))))
      (ds_ret (DV.de (dv_andV (dv_orV (DE.dv (de_call (da_cons dv_var (da_cons dv_str da_nil)))) (DE.dv (de_call (da_cons dv_var (da_cons dv_str da_nil))))) (DE.dv (de_call (da_cons dv_var (da_cons dv_int da_nil)))))))))) h⟩
end
end Toy
namespace Toy
open PySem PySem.Spec PyProof.Rows L2 Kx
section
open Dm
def m_check_parts : Dm.Fn := mFn0 4 4 ((sSeq (sIf (mNot (mTest (frz (mCall m_is_integer_to (mCons (mVar 0) (mCons (mC (.int 9)) mNil)))))) sNever sNx)
    (sSeq (sIf (mNot (mTest (frz (mCall m_is_memory (mCons (mVar 1) mNil))))) sNever sNx)
    (sSeq (sIf (mNot (mTest (frz (mCall m_is_integer_to (mCons (mVar 2) (mCons (mC (.int 5)) mNil)))))) sNever sNx)
    (sIf (mNot (mTest (frz (mCall m_is_truth (mCons (mVar 3) mNil))))) sNever sNx)))))
variable {P : Program} {w : World} {K : PySem.W.Frag} {mg : Str → Option Value} {base : Heap}
theorem ok_check_parts (T : Txt K mg) : FnOk P w K mg base CX0 4 T.a_check_parts T.d_check_parts ["money", "memory", "tops", "numbered"] (spP T.W m_check_parts) := by
  have nd := sc_check_parts.nd
  refine T.F_check_parts.ok sc_check_parts (fun vs H Q E h => spP0_len (E := E) h) (fun cdv A outer s H vs Q E hr h => ?_)
  have hu := hu_of hr
  have hu65 := hu65_of hr
  exact ⟨_, (pss_cons (ps_if (pt_not (pt_val (pe_call (ok_is_integer_to T) (hr.mono (by decide)) rfl T.g_is_integer_to T.k_is_integer_to T.b_is_integer_to .nil pass0 (pa_cons (pv 0) (pa_cons (pe_glob rfl T.g_TOP_MONEY T.r_TOP_MONEY) pa_nil))))) (pss_one (ps_never)) pss_nil)
      (pss_cons (ps_if (pt_not (pt_val (pe_call (ok_is_memory T) (hr.mono (by decide)) rfl T.g_is_memory T.k_is_memory T.b_is_memory .nil pass0 (pa_cons (pv 1) pa_nil)))) (pss_one (ps_never)) pss_nil)
      (pss_cons (ps_if (pt_not (pt_val (pe_call (ok_is_integer_to T) (hr.mono (by decide)) rfl T.g_is_integer_to T.k_is_integer_to T.b_is_integer_to .nil pass0 (pa_cons (pv 2) (pa_cons (pe_glob rfl T.g_MOST_TOPS T.r_MOST_TOPS) pa_nil))))) (pss_one (ps_never)) pss_nil)
      (pss_one (ps_if (pt_not (pt_val (pe_call (ok_is_truth T) (hr.mono (by decide)) rfl T.g_is_truth T.k_is_truth T.b_is_truth .nil pass0 (pa_cons (pv 3) pa_nil)))) (pss_one (ps_never)) pss_nil))))), fnP0 rfl (ds_seq (ds_if (dt_not (dt_B (DE.dv (de_call (da_cons dv_var (da_cons dv_int da_nil)))))) ds_neverG ds_next)
      (ds_seq (ds_if (dt_not (dt_B (DE.dv (de_call (da_cons dv_var da_nil))))) ds_neverG ds_next)
      (ds_seq (ds_if (dt_not (dt_B (DE.dv (de_call (da_cons dv_var (da_cons dv_int da_nil)))))) ds_neverG ds_next)
      (ds_if (dt_not (dt_B (DE.dv (de_call (da_cons dv_var da_nil))))) ds_neverG ds_next)))) h⟩
end
end Toy
namespace Toy
open PySem PySem.Spec PyProof.Rows L2 Kx
section
open Dm
def m_check_tills : Dm.Fn := mFn0 1 4 ((sSeq (sIf (mOr (mNot (mTest (frz (mCall m_is_list (mCons (mVar 0) mNil))))) (mTest (frz (mOp gEq (frz (mCB gLen (mCons (mVar 0) mNil))) (mC (.int 0)))))) sNever sNx)
    (sSeq (sSet 1 (mDNew 0))
    (sSeq (sFor (itEnum (mCons (mVar 0) mNil)) (unD 2 (tgCons (tgN 2) (tgCons (tgN 3) tgNil))) (sSeq (sIf (mPeek (fun _ => true) (mOr (mNot (mTest (frz (mIsiC 0 (mVar 3))))) (mTest (frz (mOp gIn (frz (mFld [0] "name" (mVar 3))) (mVar 1)))))) sNever sNx)
    (sPut 1 (frz (mFld [0] "name" (mVar 3))) (mC (.bl true)))))
    (sIf (mTest (frz (mOp gGt (frz (mCB gLen (mCons (mVar 0) mNil))) (mC (.int 4))))) sNever sNx)))))
variable {P : Program} {w : World} {K : PySem.W.Frag} {mg : Str → Option Value} {base : Heap}
theorem ok_check_tills (T : Txt K mg) : FnOk P w K mg base CX0 2 T.a_check_tills T.d_check_tills ["tills"] (spP T.W m_check_tills) := by
  have nd := sc_check_tills.nd
  refine T.F_check_tills.ok sc_check_tills (fun vs H Q E h => spP0_len (E := E) h) (fun cdv A outer s H vs Q E hr h => ?_)
  have hu := hu_of hr
  have hu65 := hu65_of hr
  exact ⟨_, (pss_cons (ps_if (PW.pt (pw_or (pt_not (pt_val (pe_call (ok_is_list T) (hr.mono (by decide)) rfl T.g_is_list T.k_is_list T.b_is_list .nil pass0 (pa_cons (pv 0) pa_nil)))) (pw_or1 (pt_cmpR (op_eqK (K := K) rfl hr.units) (pe_callB (call_lenA (K := K) rfl) (by rfl) T.no_len (by decide +kernel) (pa_cons (pv 0) pa_nil)) (pe_int) (nomark _))))) (pss_one (ps_never)) pss_nil)
      (pss_cons (ps_set (i := 1) nd rfl (by first | exact Or.inl rfl | exact Or.inr rfl) (pe_dnewK))
      (pss_cons (ps_for PassesOwn.never rfl (PI_or (pi_enum (by rfl) T.no_enumerate (pa_cons (pv 0) pa_nil)) (Kx.pi_enumT (by rfl) T.no_enumerate (pa_cons (pv 0) pa_nil))) (pg_un (K := K) rfl 2 rfl (pgs_cons (pg_name (i := 2) nd rfl (by first | exact Or.inl rfl | exact Or.inr rfl)) (pgs_cons (pg_name (i := 3) nd rfl (by first | exact Or.inl rfl | exact Or.inr rfl)) pgs_nil))) (pss_cons (ps_if (PW.pt (pw_or (pt_not (pt_val (pe_callB (call_isiA (K := K) rfl) (by rfl) T.no_isinstance (by decide +kernel) (pa_cons (pv 3) (pa_cons (pe_glob (v := .ref T.c_Till) rfl T.g_Till rfl) pa_nil))))) (pw_or1 (pt_cmpR (op_inK (K := K) rfl hu65) (pe_fldK (K := K) rfl (pv 3) rfl) (pv 1) (by rfl))))) (pss_one (ps_never)) pss_nil)
      (pss_one (ps_asg (pe_bl) (pg_sub (pv 1) (pe_fldK (K := K) rfl (pv 3) rfl) (set_A hu))))))
      (pss_one (ps_if (pt_cmpR op_gtD (pe_callB (call_lenA (K := K) rfl) (by rfl) T.no_len (by decide +kernel) (pa_cons (pv 0) pa_nil)) (pe_glob rfl T.g_MOST_TILLS T.r_MOST_TILLS) (nomark _)) (pss_one (ps_never)) pss_nil))))), fnP0 rfl (ds_seq (ds_if (dt_or (dt_not (dt_B (DE.dv (de_call (da_cons dv_var da_nil))))) (dt_test (DE.dv (de_op d2_eq (DE.dv (de_cb db_len (da_cons dv_var da_nil))) dv_int)))) ds_neverG ds_next)
      (ds_seq (ds_set (i := 1) de_dnewK)
      (ds_seq (ds_for (di_enum (da_cons dv_var da_nil)) (dg_un (dgs_consG dg_nameG (dgs_consG dg_nameG dgs_nilG))) (ds_seq (ds_if (dt_peek (dt_or (dt_not (dt_B (DE.dv (de_isiC (c := 0) ⟨T.cl_Till, T.ic_Till, T.sp_cls, T.tk_cls, T.mr_Till, T.ty_Till, T.cl_Till.hd⟩ dv_var)))) (dt_test (DE.dv (de_op d2_in (DE.dv (de_fld (cs := [0]) (List.forall_mem_cons.mpr ⟨⟨T.cl_Till, T.n_Till_name⟩, List.forall_mem_nil _⟩) dv_var)) dv_var))))) ds_neverG ds_next)
      (ds_put (i := 1) (DE.dv (de_fld (cs := [0]) (List.forall_mem_cons.mpr ⟨⟨T.cl_Till, T.n_Till_name⟩, List.forall_mem_nil _⟩) dv_var)) dv_bl)))
      (ds_if (dt_test (DE.dv (de_op d2_gt (DE.dv (de_cb db_len (da_cons dv_var da_nil))) dv_int))) ds_neverG ds_next)))) h⟩
end
end Toy
namespace Toy
open PySem PySem.Spec PyProof.Rows L2 Kx
section
open Dm
def m_Town_init : Dm.FnI := mFnI0 7 9 ((sSeq (sDrop (mCall m_check_tills (mCons (mVar 1) mNil)))
    (sSeq (sSet 7 (mLc (itSeq (mVar 1)) [8] (tgN 8) mYes (frz (mFld [0] "name" (mVar 8)))))
    (sSeq (sDrop (mCall m_check_links (mCons (mVar 7) (mCons (mVar 2) mNil))))
    (sSeq (sDrop (mCall m_check_parts (mCons (mVar 3) (mCons (mVar 4) (mCons (mVar 5) (mCons (mVar 6) mNil))))))
    (sSeq (sFldPut [1] 0 "_tills" (frz (mCB gTuple (mCons (mVar 1) mNil))))
    (sSeq (sFldPut [1] 0 "_by_name" (frz (mDc (itSeq (mVar 1)) [8] (tgN 8) mYes (frz (mFld [0] "name" (mVar 8))) (mVar 8))))
    (sSeq (sFldPut [1] 0 "links" (frz (mCall m_ascending_links (mCons (mVar 7) (mCons (mVar 2) mNil)))))
    (sSeq (sFldPut [1] 0 "money" (mVar 3))
    (sSeq (sFldPut [1] 0 "memory" (mVar 4))
    (sSeq (sFldPut [1] 0 "tops" (mVar 5))
    (sFldPut [1] 0 "numbered" (mVar 6)))))))))))))
variable {P : Program} {w : World} {K : PySem.W.Frag} {mg : Str → Option Value} {base : Heap}
theorem ok_Town_init (T : Txt K mg) : FnOk P w K mg base CX0 5 T.a_Town_init T.d_Town_init ["self", "tills", "links", "money", "memory", "tops", "numbered"] (spI T.W m_Town_init) := by
  have nd := sc_Town_init.nd
  refine T.F_Town_init.ok sc_Town_init (fun vs H Q E h => spI0_len (E := E) h) (fun cdv A outer s H vs Q E hr h => ?_)
  have hu := hu_of hr
  have hu65 := hu65_of hr
  exact ⟨_, (pss_cons (ps_expr (pe_call (ok_check_tills T) (hr.mono (by decide)) rfl T.g_check_tills T.k_check_tills T.b_check_tills .nil pass0 (pa_cons (pv 1) pa_nil)))
      (pss_cons (ps_setLc (i := 7) (own := [("till", 8)]) rfl nd rfl rfl (sw_true rfl rfl rfl (by decide +kernel)) (pi_seq (K := K) rfl (pv 1)) (blkOk_by (N := ["self", "tills", "links", "money", "memory", "tops", "numbered", "names", "till"]) (sc := defScope s_Town_init) (by decide +kernel)) (fun _ _ _ _ _ => (pg_name (i := 8) nd rfl (by first | exact Or.inl rfl | exact Or.inr rfl))) (fun _ _ _ _ _ => pts_nil) (fun _ _ _ _ _ => (pe_fldK (K := K) rfl (pv 8) rfl)))
      (pss_cons (ps_expr (pe_call (ok_check_links T) (hr.mono (by decide)) rfl T.g_check_links T.k_check_links T.b_check_links .nil pass0 (pa_cons (pv 7) (pa_cons (pv 2) pa_nil))))
      (pss_cons (ps_expr (pe_call (ok_check_parts T) (hr.mono (by decide)) rfl T.g_check_parts T.k_check_parts T.b_check_parts .nil pass0 (pa_cons (pv 3) (pa_cons (pv 4) (pa_cons (pv 5) (pa_cons (pv 6) pa_nil))))))
      (pss_cons (ps_fld (pv 0) (pe_callTy (call_tupA (K := K) rfl) (by rfl) T.no_tuple (by decide +kernel) (pa_cons (pv 1) pa_nil)) rfl)
      (pss_cons (ps_fld (pv 0) (pe_dc (own := [("till", 8)]) rfl nd (pi_seq (K := K) rfl (pv 1)) (blkOk_by (N := ["self", "tills", "links", "money", "memory", "tops", "numbered", "names", "till"]) (sc := defScope s_Town_init) (by decide +kernel)) (fun _ _ _ _ _ => (pg_name (i := 8) nd rfl (by first | exact Or.inl rfl | exact Or.inr rfl))) (fun _ _ _ _ _ => pts_nil) (fun _ _ _ _ _ => (pe_fldK (K := K) rfl (pv 8) rfl)) (fun _ _ _ _ _ => (pv 8))) rfl)
      (pss_cons (ps_fld (pv 0) (pe_call (ok_ascending_links T) (hr.mono (by decide)) rfl T.g_ascending_links T.k_ascending_links T.b_ascending_links .nil pass0 (pa_cons (pv 7) (pa_cons (pv 2) pa_nil))) rfl)
      (pss_cons (ps_fld (pv 0) (pv 3) rfl)
      (pss_cons (ps_fld (pv 0) (pv 4) rfl)
      (pss_cons (ps_fld (pv 0) (pv 5) rfl)
      (pss_one (ps_fld (pv 0) (pv 6) rfl)))))))))))), fnI0 rfl (ds_seq (ds_drop (de_call (da_cons dv_var da_nil)))
      (ds_seq (ds_set (i := 7) (de_lc (vs := [8]) (di_seq dv_var) dg_nameG dt_yesG (DE.dv (de_fld (cs := [0]) (List.forall_mem_cons.mpr ⟨⟨T.cl_Till, T.n_Till_name⟩, List.forall_mem_nil _⟩) dv_var)) (by decide)))
      (ds_seq (ds_drop (de_call (da_cons dv_var (da_cons dv_var da_nil))))
      (ds_seq (ds_drop (de_call (da_cons dv_var (da_cons dv_var (da_cons dv_var (da_cons dv_var da_nil))))))
      (ds_seq (ds_fldput (cs := [1]) (i := 0) (List.forall_mem_cons.mpr ⟨⟨T.cl_Town, T.n_Town__tills⟩, List.forall_mem_nil _⟩) (DE.dv (de_cb db_tuple (da_cons dv_var da_nil))))
      (ds_seq (ds_fldput (cs := [1]) (i := 0) (List.forall_mem_cons.mpr ⟨⟨T.cl_Town, T.n_Town__by_name⟩, List.forall_mem_nil _⟩) (DE.dv (de_dc (vs := [8]) (di_seq dv_var) dg_nameG dt_yesG (DE.dv (de_fld (cs := [0]) (List.forall_mem_cons.mpr ⟨⟨T.cl_Till, T.n_Till_name⟩, List.forall_mem_nil _⟩) dv_var)) dv_var (by decide))))
      (ds_seq (ds_fldput (cs := [1]) (i := 0) (List.forall_mem_cons.mpr ⟨⟨T.cl_Town, T.n_Town_links⟩, List.forall_mem_nil _⟩) (DE.dv (de_call (da_cons dv_var (da_cons dv_var da_nil)))))
      (ds_seq (ds_fldput (cs := [1]) (i := 0) (List.forall_mem_cons.mpr ⟨⟨T.cl_Town, T.n_Town_money⟩, List.forall_mem_nil _⟩) dv_var)
      (ds_seq (ds_fldput (cs := [1]) (i := 0) (List.forall_mem_cons.mpr ⟨⟨T.cl_Town, T.n_Town_memory⟩, List.forall_mem_nil _⟩) dv_var)
      (ds_seq (ds_fldput (cs := [1]) (i := 0) (List.forall_mem_cons.mpr ⟨⟨T.cl_Town, T.n_Town_tops⟩, List.forall_mem_nil _⟩) dv_var)
      (ds_fldput (cs := [1]) (i := 0) (List.forall_mem_cons.mpr ⟨⟨T.cl_Town, T.n_Town_numbered⟩, List.forall_mem_nil _⟩) dv_var))))))))))) h⟩
end
end Toy
namespace Toy
open PySem PySem.Spec PyProof.Rows L2 Kx
section
open Dm
def m__law_made : Dm.Fn := mFn0 1 4 ((sSeq (sSet 1 (mLc (itRng1 (mCons (frz (mCB gLen (mCons (frz (mOp gIx (mVar 0) (mC (.str "names")))) mNil))) mNil)) [3] (tgN 3) mYes (frz (mMakeK 0 2 1 m_Till_init (mCons (frz (mOp gIx (frz (mOp gIx (mVar 0) (mC (.str "names")))) (mVar 3))) (mCons (frz (mOp gIx (frz (mOp gIx (mVar 0) (mC (.str "limits")))) (mVar 3))) mNil)) (mCons (frz (mOp gIx (frz (mOp gIx (mVar 0) (mC (.str "heeds")))) (mVar 3))) mNil)))))
    (sSeq (sSet 2 (mLst (mCons (frz (mOp gIx (mVar 0) (mC (.str "money")))) (mCons (frz (mOp gIx (mVar 0) (mC (.str "memory")))) (mCons (frz (mOp gIx (mVar 0) (mC (.str "tops")))) mNil)))))
    (sRet (mMakeK 1 1 5 m_Town_init (mCons (mVar 1) mNil) (mCons (frz (mCB gList (mCons (frz (mOp gIx (mVar 0) (mC (.str "links")))) mNil))) (mCons (frz (mOp gIx (mVar 2) (mC (.int 0)))) (mCons (frz (mOp gIx (mVar 2) (mC (.int 1)))) (mCons (frz (mOp gIx (mVar 2) (mC (.int 2)))) (mCons (frz (mOp gIx (mVar 0) (mC (.str "numbered")))) mNil))))))))))
variable {P : Program} {w : World} {K : PySem.W.Frag} {mg : Str → Option Value} {base : Heap}
theorem ok__law_made (T : Txt K mg) : FnOk P w K mg base CX0 7 T.a__law_made T.d__law_made ["_law_t"] (spP T.W m__law_made) := by
  have nd := sc__law_made.nd
  refine T.F__law_made.ok sc__law_made (fun vs H Q E h => spP0_len (E := E) h) (fun cdv A outer s H vs Q E hr h => ?_)
  have hu := hu_of hr
  have hu65 := hu65_of hr
  exact ⟨_, (pss_cons (ps_setLc (i := 1) (own := [("_law_k", 3)]) rfl nd rfl rfl (sw_true rfl rfl rfl (by decide +kernel)) (pi_range1 (by rfl) T.no_range (pa_cons (pe_callB (call_lenA (K := K) rfl) (by rfl) T.no_len (by decide +kernel) (pa_cons (pe_ix (ix_D (K := K) rfl hu) (pv 0) (pe_str) (fun _ _ => rfl)) pa_nil)) pa_nil)) (blkOk_by (N := ["_law_t", "_law_tills", "_law_some", "_law_k"]) (sc := defScope s__law_made) (by decide +kernel)) (fun _ _ _ _ _ => (pg_name (i := 3) nd rfl (by first | exact Or.inl rfl | exact Or.inr rfl))) (fun _ _ _ _ _ => pts_nil) (fun _ _ _ _ _ => (pe_makeK T.mk_Till (ok_Till_init T) (hr.mono (by decide)) rfl T.g_Till T.kb_Till_init_2_heeds pass0 (pa_cons (pe_ix (ix_D (K := K) rfl hu) (pe_ix (ix_D (K := K) rfl hu) (pv 0) (pe_str) (fun _ _ => rfl)) (pv 3) (fun _ _ => rfl)) (pa_cons (pe_ix (ix_D (K := K) rfl hu) (pe_ix (ix_D (K := K) rfl hu) (pv 0) (pe_str) (fun _ _ => rfl)) (pv 3) (fun _ _ => rfl)) pa_nil)) (pk_cons (pe_ix (ix_D (K := K) rfl hu) (pe_ix (ix_D (K := K) rfl hu) (pv 0) (pe_str) (fun _ _ => rfl)) (pv 3) (fun _ _ => rfl)) pk_nil))))
      (pss_cons (ps_set (i := 2) nd rfl (by first | exact Or.inl rfl | exact Or.inr rfl) (pe_lst (pa_cons (pe_ix (ix_D (K := K) rfl hu) (pv 0) (pe_str) (fun _ _ => rfl)) (pa_cons (pe_ix (ix_D (K := K) rfl hu) (pv 0) (pe_str) (fun _ _ => rfl)) (pa_cons (pe_ix (ix_D (K := K) rfl hu) (pv 0) (pe_str) (fun _ _ => rfl)) pa_nil)))))
      (pss_one (ps_ret (pe_makeK T.mk_Town (ok_Town_init T) (hr.mono (by decide)) rfl T.g_Town T.kb_Town_init_1_links_money_memory_tops_numbered pass0 (pa_cons (pv 1) pa_nil) (pk_cons (pe_callTy (call_listA (K := K) rfl) (by rfl) T.no_list (by decide +kernel) (pa_cons (pe_ix (ix_D (K := K) rfl hu) (pv 0) (pe_str) (fun _ _ => rfl)) pa_nil)) (pk_cons (pe_ix (ix_D (K := K) rfl hu) (pv 2) (pe_int) (fun _ _ => rfl)) (pk_cons (pe_ix (ix_D (K := K) rfl hu) (pv 2) (pe_int) (fun _ _ => rfl)) (pk_cons (pe_ix (ix_D (K := K) rfl hu) (pv 2) (pe_int) (fun _ _ => rfl)) (pk_cons (pe_ix (ix_D (K := K) rfl hu) (pv 0) (pe_str) (fun _ _ => rfl)) pk_nil)))))))))), fnP0 rfl (ds_seq (ds_set (i := 1) (de_lc (vs := [3]) (di_rng1 (da_cons (DE.dv (de_cb db_len (da_cons (DE.dv (de_op d2_ix dv_var dv_str)) da_nil))) da_nil)) dg_nameG dt_yesG (DE.dv (de_makeK (c := 0) (n := 2) (l := 1) rfl (da_cons (DE.dv (de_op d2_ix (DE.dv (de_op d2_ix dv_var dv_str)) dv_var)) (da_cons (DE.dv (de_op d2_ix (DE.dv (de_op d2_ix dv_var dv_str)) dv_var)) da_nil)) (da_cons (DE.dv (de_op d2_ix (DE.dv (de_op d2_ix dv_var dv_str)) dv_var)) da_nil))) (by decide)))
      (ds_seq (ds_set (i := 2) (de_lst (da_cons (DE.dv (de_op d2_ix dv_var dv_str)) (da_cons (DE.dv (de_op d2_ix dv_var dv_str)) (da_cons (DE.dv (de_op d2_ix dv_var dv_str)) da_nil)))))
      (ds_ret (de_makeK (c := 1) (n := 1) (l := 5) rfl (da_cons dv_var da_nil) (da_cons (DE.dv (de_cb db_list (da_cons (DE.dv (de_op d2_ix dv_var dv_str)) da_nil))) (da_cons (DE.dv (de_op d2_ix dv_var dv_int)) (da_cons (DE.dv (de_op d2_ix dv_var dv_int)) (da_cons (DE.dv (de_op d2_ix dv_var dv_int)) (da_cons (DE.dv (de_op d2_ix dv_var dv_str)) da_nil))))))))) h⟩
end
end Toy
namespace Toy
open PySem PySem.Spec PyProof.Rows L2 Kx
section
open Dm
def m__law_draw : Dm.FnI := mFnI0 2 3 ((sSeq (sIf (mPeek (fun _ => true) (mTest (frz (mOp gGt (frz (mOp gIx (mVar 0) (mC (.int 0)))) (mC (.int 0)))))) (sSeq (sSet 2 (mOp gMod (mPeek isF (frz (mCB gInt (mCons (frz (mOp gIx (mVar 0) (mC (.int 0)))) mNil)))) (mVar 1)))
    (sSeq (sPut 0 (mC (.int 0)) (frz (mOp gDiv (mIxO 0 (mC (.int 0))) (mVar 1))))
    (sRet (toC (mVar 2))))) sNx)
    (sSeq (sPut 0 (mC (.int 1)) (frz (mOp gMod (mPeek isF (frz (mCB gInt (mCons (frz (mOp gAdd (frz (mOp gMul (frz (mOp gIx (mVar 0) (mC (.int 1)))) (mC (.int 48271)))) (mC (.int 11)))) mNil)))) (mC (.int 2147483647)))))
    (sRet (mOp gMod (mPeek isF (frz (mCB gInt (mCons (frz (mOp gDiv (frz (mOp gMod (frz (mCB gInt (mCons (frz (mOp gMul (frz (mOp gIx (mVar 0) (mC (.int 1)))) (frz (mOp gIx (mVar 0) (mC (.int 1)))))) mNil))) (mC (.int 2147483629)))) (mC (.int 16)))) mNil)))) (mVar 1))))))
variable {P : Program} {w : World} {K : PySem.W.Frag} {mg : Str → Option Value} {base : Heap}
theorem ok__law_draw (T : Txt K mg) : FnOk P w K mg base CX0 1 T.a__law_draw T.d__law_draw ["_law_pool_here", "_law_many"] (spI T.W m__law_draw) := by
  have nd := sc__law_draw.nd
  refine T.F__law_draw.ok sc__law_draw (fun vs H Q E h => spI0_len (E := E) h) (fun cdv A outer s H vs Q E hr h => ?_)
  have hu := hu_of hr
  have hu65 := hu65_of hr
  exact ⟨_, (pss_cons (ps_if (pt_cmpR op_gtD (pe_ix (ix_D (K := K) rfl hu) (pv 0) (pe_int) (fun _ _ => rfl)) (pe_int) (nomark _)) (pss_cons (ps_set (i := 2) nd rfl (by first | exact Or.inl rfl | exact Or.inr rfl) (pe_op op_mod (pe_callTy call_int1 (by rfl) T.no_int (by decide +kernel) (pa_cons (pe_ix (ix_D (K := K) rfl hu) (pv 0) (pe_int) (fun _ _ => rfl)) pa_nil)) (pv 1)))
      (pss_cons (ps_asg (pe_op op_fdiv (pe_ix (ix_D (K := K) rfl hu) (pv 0) (pe_int) (fun _ _ => rfl)) (pv 1)) (pg_sub (pv 0) (pe_int) (set_A hu)))
      (pss_one (ps_ret (pv 2))))) pss_nil)
      (pss_cons (ps_asg (pe_op op_mod (pe_callTy call_int1 (by rfl) T.no_int (by decide +kernel) (pa_cons (pe_op (op_addD (K := K) rfl) (pe_op (op_mulD (K := K) rfl) (pe_ix (ix_D (K := K) rfl hu) (pv 0) (pe_int) (fun _ _ => rfl)) (pe_int)) (pe_int)) pa_nil)) (pe_int)) (pg_sub (pv 0) (pe_int) (set_A hu)))
      (pss_one (ps_ret (pe_op op_mod (pe_callTy call_int1 (by rfl) T.no_int (by decide +kernel) (pa_cons (pe_op op_fdiv (pe_op op_mod (pe_callTy call_int1 (by rfl) T.no_int (by decide +kernel) (pa_cons (pe_op (op_mulD (K := K) rfl) (pe_ix (ix_D (K := K) rfl hu) (pv 0) (pe_int) (fun _ _ => rfl)) (pe_ix (ix_D (K := K) rfl hu) (pv 0) (pe_int) (fun _ _ => rfl))) pa_nil)) (pe_int)) (pe_int)) pa_nil)) (pv 1)))))), fnI0 rfl (ds_seq (ds_if (dt_peek (dt_test (DE.dv (de_op d2_gt (DE.dv (de_op d2_ix dv_var dv_int)) dv_int)))) (ds_seq (ds_set (i := 2) (de_op d2_mod (dv_peek (DE.dv (de_cb db_int (da_cons (DE.dv (de_op d2_ix dv_var dv_int)) da_nil)))) dv_var))
      (ds_seq (ds_put (i := 0) dv_int (DE.dv (de_op d2_div (dv_ixO dv_int) dv_var)))
      (ds_ret (DV.de dv_var)))) ds_next)
      (ds_seq (ds_put (i := 0) dv_int (DE.dv (de_op d2_mod (dv_peek (DE.dv (de_cb db_int (da_cons (DE.dv (de_op d2_add (DE.dv (de_op d2_mul (DE.dv (de_op d2_ix dv_var dv_int)) dv_int)) dv_int)) da_nil)))) dv_int)))
      (ds_ret (de_op d2_mod (dv_peek (DE.dv (de_cb db_int (da_cons (DE.dv (de_op d2_div (DE.dv (de_op d2_mod (DE.dv (de_cb db_int (da_cons (DE.dv (de_op d2_mul (DE.dv (de_op d2_ix dv_var dv_int)) (DE.dv (de_op d2_ix dv_var dv_int)))) da_nil))) dv_int)) dv_int)) da_nil)))) dv_var)))) h⟩
end
end Toy
namespace Toy
open PySem PySem.Spec PyProof.Rows L2 Kx
section
open Dm
def m__law_pick : Dm.FnI := mFnI0 2 2 ((sRet (mOp gIx (mVar 1) (frz (mCallI m__law_draw 0 (mCons (frz (mCB gLen (mCons (mVar 1) mNil))) mNil))))))
variable {P : Program} {w : World} {K : PySem.W.Frag} {mg : Str → Option Value} {base : Heap}
theorem ok__law_pick (T : Txt K mg) : FnOk P w K mg base CX0 2 T.a__law_pick T.d__law_pick ["_law_pool_here", "_law_row"] (spI T.W m__law_pick) := by
  have nd := sc__law_pick.nd
  refine T.F__law_pick.ok sc__law_pick (fun vs H Q E h => spI0_len (E := E) h) (fun cdv A outer s H vs Q E hr h => ?_)
  have hu := hu_of hr
  have hu65 := hu65_of hr
  exact ⟨_, (pss_one (ps_ret (pe_ix (ix_D (K := K) rfl hu) (pv 1) (pe_call (ok__law_draw T) (hr.mono (by decide)) rfl T.g__law_draw T.k__law_draw T.b__law_draw .nil pass0 (pa_cons (pv 0) (pa_cons (pe_callB (call_lenA (K := K) rfl) (by rfl) T.no_len (by decide +kernel) (pa_cons (pv 1) pa_nil)) pa_nil))) (fun _ _ => rfl)))), fnI0 rfl (ds_ret (de_op d2_ix dv_var (DE.dv (de_callI (i := 0) (da_cons (DE.dv (de_cb db_len (da_cons dv_var da_nil))) da_nil))))) h⟩
end
end Toy
namespace Toy
open PySem PySem.Spec PyProof.Rows L2 Kx
section
open Dm
def m__law_names : Dm.FnI := mFnI0 2 9 ((sSeq (sSet 2 (toC (mC (.str "abcdefghijklmnopqrstuvwxyz"))))
    (sSeq (sUn (unD 2 (tgCons (tgN 3) (tgCons (tgN 4) tgNil))) (mTup (mCons (frz (mCallI m__law_draw 0 (mCons (mC (.int 26)) mNil))) (mCons (frz (mOp gAdd (mC (.int 1)) (frz (mOp gMul (mC (.int 2)) (frz (mCallI m__law_draw 0 (mCons (mC (.int 6)) mNil))))))) mNil))))
    (sSeq (sSet 5 (mLst (mCons (mTup (mCons (mC (.str "")) (mCons (mC (.str "")) mNil))) (mCons (mTup (mCons (mC (.str "")) (mCons (mC (.str "q")) mNil))) (mCons (mTup (mCons (mC (.str "ab")) (mCons (mC (.str "")) mNil))) (mCons (mTup (mCons (mC (.str "abcdefg")) (mCons (mC (.str "")) mNil))) (mCons (mTup (mCons (mC (.str "")) (mCons (mC (.str "abcdefg")) mNil))) mNil)))))))
    (sSeq (sUn (unD 2 (tgCons (tgN 6) (tgCons (tgN 7) tgNil))) (frz (mCallI m__law_pick 0 (mCons (mVar 5) mNil))))
    (sRet (mLc (itRng1 (mCons (mVar 1) mNil)) [8] (tgN 8) mYes (frz (mOp gAdd (frz (mOp gAdd (mVar 6) (frz (mOp gIx (mVar 2) (frz (mOp gMod (frz (mCB gInt (mCons (frz (mOp gAdd (mVar 3) (frz (mOp gMul (mVar 4) (mVar 8))))) mNil))) (mC (.int 26)))))))) (mVar 7))))))))))
variable {P : Program} {w : World} {K : PySem.W.Frag} {mg : Str → Option Value} {base : Heap}
theorem ok__law_names (T : Txt K mg) : FnOk P w K mg base CX0 3 T.a__law_names T.d__law_names ["_law_pool_here", "_law_count"] (spI T.W m__law_names) := by
  have nd := sc__law_names.nd
  refine T.F__law_names.ok sc__law_names (fun vs H Q E h => spI0_len (E := E) h) (fun cdv A outer s H vs Q E hr h => ?_)
  have hu := hu_of hr
  have hu65 := hu65_of hr
  exact ⟨_, (pss_cons (ps_set (i := 2) nd rfl (by first | exact Or.inl rfl | exact Or.inr rfl) (pe_str))
      (pss_cons (ps_asg (pe_tup (pa_cons (pe_call (ok__law_draw T) (hr.mono (by decide)) rfl T.g__law_draw T.k__law_draw T.b__law_draw .nil pass0 (pa_cons (pv 0) (pa_cons (pe_int) pa_nil))) (pa_cons (pe_op (op_addD (K := K) rfl) (pe_int) (pe_op (op_mulD (K := K) rfl) (pe_int) (pe_call (ok__law_draw T) (hr.mono (by decide)) rfl T.g__law_draw T.k__law_draw T.b__law_draw .nil pass0 (pa_cons (pv 0) (pa_cons (pe_int) pa_nil))))) pa_nil))) (pg_un (K := K) rfl 2 rfl (pgs_cons (pg_name (i := 3) nd rfl (by first | exact Or.inl rfl | exact Or.inr rfl)) (pgs_cons (pg_name (i := 4) nd rfl (by first | exact Or.inl rfl | exact Or.inr rfl)) pgs_nil))))
      (pss_cons (ps_set (i := 5) nd rfl (by first | exact Or.inl rfl | exact Or.inr rfl) (pe_lst (pa_cons (pe_tup (pa_cons (pe_str) (pa_cons (pe_str) pa_nil))) (pa_cons (pe_tup (pa_cons (pe_str) (pa_cons (pe_str) pa_nil))) (pa_cons (pe_tup (pa_cons (pe_str) (pa_cons (pe_str) pa_nil))) (pa_cons (pe_tup (pa_cons (pe_str) (pa_cons (pe_str) pa_nil))) (pa_cons (pe_tup (pa_cons (pe_str) (pa_cons (pe_str) pa_nil))) pa_nil)))))))
      (pss_cons (ps_asg (pe_call (ok__law_pick T) (hr.mono (by decide)) rfl T.g__law_pick T.k__law_pick T.b__law_pick .nil pass0 (pa_cons (pv 0) (pa_cons (pv 5) pa_nil))) (pg_un (K := K) rfl 2 rfl (pgs_cons (pg_name (i := 6) nd rfl (by first | exact Or.inl rfl | exact Or.inr rfl)) (pgs_cons (pg_name (i := 7) nd rfl (by first | exact Or.inl rfl | exact Or.inr rfl)) pgs_nil))))
      (pss_one (ps_ret (pe_lc (own := [("_law_k", 8)]) rfl nd (pi_range1 (by rfl) T.no_range (pa_cons (pv 1) pa_nil)) (blkOk_by (N := ["_law_pool_here", "_law_count", "_law_signs", "_law_origin", "_law_step", "_law_ends", "_law_head", "_law_tail", "_law_k"]) (sc := defScope s__law_names) (by decide +kernel)) (fun _ _ _ _ _ => (pg_name (i := 8) nd rfl (by first | exact Or.inl rfl | exact Or.inr rfl))) (fun _ _ _ _ _ => pts_nil) (fun _ _ _ _ _ => (pe_op (op_addD (K := K) rfl) (pe_op (op_addD (K := K) rfl) (pv 6) (pe_ix (ix_D (K := K) rfl hu) (pv 2) (pe_op op_mod (pe_callTy call_int1 (by rfl) T.no_int (by decide +kernel) (pa_cons (pe_op (op_addD (K := K) rfl) (pv 3) (pe_op (op_mulD (K := K) rfl) (pv 4) (pv 8))) pa_nil)) (pe_int)) (fun _ _ => rfl))) (pv 7)))))))))), fnI0 rfl (ds_seq (ds_set (i := 2) (DV.de dv_str))
      (ds_seq (ds_un (dv_tup (da_cons (DE.dv (de_callI (i := 0) (da_cons dv_int da_nil))) (da_cons (DE.dv (de_op d2_add dv_int (DE.dv (de_op d2_mul dv_int (DE.dv (de_callI (i := 0) (da_cons dv_int da_nil))))))) da_nil))) (dg_un (dgs_consG dg_nameG (dgs_consG dg_nameG dgs_nilG))))
      (ds_seq (ds_set (i := 5) (de_lst (da_cons (dv_tup (da_cons dv_str (da_cons dv_str da_nil))) (da_cons (dv_tup (da_cons dv_str (da_cons dv_str da_nil))) (da_cons (dv_tup (da_cons dv_str (da_cons dv_str da_nil))) (da_cons (dv_tup (da_cons dv_str (da_cons dv_str da_nil))) (da_cons (dv_tup (da_cons dv_str (da_cons dv_str da_nil))) da_nil)))))))
      (ds_seq (ds_un (DE.dv (de_callI (i := 0) (da_cons dv_var da_nil))) (dg_un (dgs_consG dg_nameG (dgs_consG dg_nameG dgs_nilG))))
      (ds_ret (de_lc (vs := [8]) (di_rng1 (da_cons dv_var da_nil)) dg_nameG dt_yesG (DE.dv (de_op d2_add (DE.dv (de_op d2_add dv_var (DE.dv (de_op d2_ix dv_var (DE.dv (de_op d2_mod (DE.dv (de_cb db_int (da_cons (DE.dv (de_op d2_add dv_var (DE.dv (de_op d2_mul dv_var dv_var)))) da_nil))) dv_int)))))) dv_var)) (by decide))))))) h⟩
end
end Toy
namespace Toy
open PySem PySem.Spec PyProof.Rows L2 Kx
section
open Dm
def m__law_plan : Dm.FnI := mFnI0 3 9 ((sSeq (sSet 3 (mCallI m__law_names 0 (mCons (frz (mOp gAdd (mC (.int 1)) (frz (mCallI m__law_draw 0 (mCons (mVar 1) mNil))))) mNil)))
    (sSeq (sSet 4 (mDisp [((mC (.str "names")), (mVar 3)), ((mC (.str "limits")), (frz (mLc (itSeq (mVar 3)) [8] (tgN 8) mYes (frz (mCallI m__law_draw 0 (mCons (frz (mOp gAdd (mVar 2) (mC (.int 1)))) mNil)))))), ((mC (.str "links")), (frz (mLst mNil)))]))
    (sSeq (sPut 4 (mC (.str "heeds")) (frz (mLc (itSeq (mVar 3)) [8] (tgN 8) mYes (frz (mOp gGt (frz (mCallI m__law_draw 0 (mCons (mC (.int 4)) mNil))) (mC (.int 0)))))))
    (sSeq (sFor (itRng1 (mCons (frz (mCB gLen (mCons (mVar 3) mNil))) mNil)) (tgN 5) (sFor (itRng2 (mCons (frz (mOp gAdd (mVar 5) (mC (.int 1)))) (mCons (frz (mCB gLen (mCons (mVar 3) mNil))) mNil))) (tgN 6) (sSeq (sSet 7 (mCB gTuple (mCons (frz (mCB gSorted (mCons (frz (mLst (mCons (frz (mCB gStr (mCons (frz (mOp gIx (mVar 3) (mVar 5))) mNil))) (mCons (frz (mCB gStr (mCons (frz (mOp gIx (mVar 3) (mVar 6))) mNil))) mNil)))) mNil))) mNil)))
    (sPut 4 (mC (.str "links")) (frz (mOp gAdd (mIxO 4 (mC (.str "links"))) (mIf (mTest (frz (mOp gEq (frz (mCallI m__law_draw 0 (mCons (mC (.int 3)) mNil))) (mC (.int 0))))) (frz (mLst (mCons (mVar 7) mNil))) (frz (mLst mNil)))))))))
    (sSeq (sUn (unD 2 (tgCons (tgPut 4 (mC (.str "money"))) (tgCons (tgPut 4 (mC (.str "tops"))) tgNil))) (mTup (mCons (frz (mCallI m__law_draw 0 (mCons (frz (mOp gAdd (mVar 2) (mC (.int 1)))) mNil))) (mCons (frz (mCallI m__law_draw 0 (mCons (mC (.int 3)) mNil))) mNil))))
    (sSeq (sPut 4 (mC (.str "memory")) (frz (mCallI m__law_pick 0 (mCons (frz (mLst (mCons (mTup (mCons (mC (.str "nothing")) mNil)) (mCons (mTup (mCons (mC (.str "times")) (mCons (mC (.int 1)) mNil))) (mCons (mTup (mCons (mC (.str "times")) (mCons (mC (.int 2)) mNil))) (mCons (mTup (mCons (mC (.str "sum")) (mCons (mC (.int 1)) mNil))) (mCons (mTup (mCons (mC (.str "sum")) (mCons (mC (.int 2)) mNil))) (mCons (mTup (mCons (mC (.str "sum")) (mCons (mC (.int 3)) mNil))) mNil)))))))) mNil))))
    (sSeq (sPut 4 (mC (.str "numbered")) (frz (mOp gGt (frz (mCallI m__law_draw 0 (mCons (mC (.int 3)) mNil))) (mC (.int 0)))))
    (sRet (mMove 4))))))))))
variable {P : Program} {w : World} {K : PySem.W.Frag} {mg : Str → Option Value} {base : Heap}
theorem ok__law_plan (T : Txt K mg) : FnOk P w K mg base CX0 4 T.a__law_plan T.d__law_plan ["_law_pool_here", "_law_many", "_law_most"] (spI T.W m__law_plan) := by
  have nd := sc__law_plan.nd
  refine T.F__law_plan.ok sc__law_plan (fun vs H Q E h => spI0_len (E := E) h) (fun cdv A outer s H vs Q E hr h => ?_)
  have hu := hu_of hr
  have hu65 := hu65_of hr
  exact ⟨_, (pss_cons (ps_set (i := 3) nd rfl (by first | exact Or.inl rfl | exact Or.inr rfl) (pe_call (ok__law_names T) (hr.mono (by decide)) rfl T.g__law_names T.k__law_names T.b__law_names .nil pass0 (pa_cons (pv 0) (pa_cons (pe_op (op_addD (K := K) rfl) (pe_int) (pe_call (ok__law_draw T) (hr.mono (by decide)) rfl T.g__law_draw T.k__law_draw T.b__law_draw .nil pass0 (pa_cons (pv 0) (pa_cons (pv 1) pa_nil)))) pa_nil))))
      (pss_cons (ps_set (i := 4) nd rfl (by first | exact Or.inl rfl | exact Or.inr rfl) (pe_disp (pps_cons (pe_str) (pv 3) (pps_cons (pe_str) (pe_lc (own := [("_law_name", 8)]) rfl nd (pi_seq (K := K) rfl (pv 3)) (blkOk_by (N := ["_law_pool_here", "_law_many", "_law_most", "_law_names_here", "_law_t", "_law_one", "_law_other", "_law_pair", "_law_name"]) (sc := defScope s__law_plan) (by decide +kernel)) (fun _ _ _ _ _ => (pg_name (i := 8) nd rfl (by first | exact Or.inl rfl | exact Or.inr rfl))) (fun _ _ _ _ _ => pts_nil) (fun _ _ _ _ _ => (pe_call (ok__law_draw T) (hr.mono (by decide)) rfl T.g__law_draw T.k__law_draw T.b__law_draw .nil pass0 (pa_cons (pv 0) (pa_cons (pe_op (op_addD (K := K) rfl) (pv 2) (pe_int)) pa_nil))))) (pps_cons (pe_str) (pe_lst pa_nil) pps_nil))) (by rfl) (by rfl) (List.cons_ne_nil _ _) (by decide)))
      (pss_cons (ps_asg (pe_lc (own := [("_law_name", 8)]) rfl nd (pi_seq (K := K) rfl (pv 3)) (blkOk_by (N := ["_law_pool_here", "_law_many", "_law_most", "_law_names_here", "_law_t", "_law_one", "_law_other", "_law_pair", "_law_name"]) (sc := defScope s__law_plan) (by decide +kernel)) (fun _ _ _ _ _ => (pg_name (i := 8) nd rfl (by first | exact Or.inl rfl | exact Or.inr rfl))) (fun _ _ _ _ _ => pts_nil) (fun _ _ _ _ _ => (pe_cmpR op_gtD (pe_call (ok__law_draw T) (hr.mono (by decide)) rfl T.g__law_draw T.k__law_draw T.b__law_draw .nil pass0 (pa_cons (pv 0) (pa_cons (pe_int) pa_nil))) (pe_int) (nomark _)))) (pg_sub (pv 4) (pe_str) (set_A hu)))
      (pss_cons (ps_for PassesOwn.never rfl (pi_range1 (by rfl) T.no_range (pa_cons (pe_callB (call_lenA (K := K) rfl) (by rfl) T.no_len (by decide +kernel) (pa_cons (pv 3) pa_nil)) pa_nil)) (pg_name (i := 5) nd rfl (by first | exact Or.inl rfl | exact Or.inr rfl)) (pss_one (ps_for PassesOwn.never rfl (pi_range2 (by rfl) T.no_range (pa_cons (pe_op (op_addD (K := K) rfl) (pv 5) (pe_int)) (pa_cons (pe_callB (call_lenA (K := K) rfl) (by rfl) T.no_len (by decide +kernel) (pa_cons (pv 3) pa_nil)) pa_nil))) (pg_name (i := 6) nd rfl (by first | exact Or.inl rfl | exact Or.inr rfl)) (pss_cons (ps_set (i := 7) nd rfl (by first | exact Or.inl rfl | exact Or.inr rfl) (pe_callTy (call_tupA (K := K) rfl) (by rfl) T.no_tuple (by decide +kernel) (pa_cons (pe_callB (call_sortA (K := K) rfl) (by rfl) T.no_sorted (by decide +kernel) (pa_cons (pe_lst (pa_cons (pe_callTy call_strA (by rfl) T.no_str (by decide +kernel) (pa_cons (pe_ix (ix_D (K := K) rfl hu) (pv 3) (pv 5) (fun _ _ => rfl)) pa_nil)) (pa_cons (pe_callTy call_strA (by rfl) T.no_str (by decide +kernel) (pa_cons (pe_ix (ix_D (K := K) rfl hu) (pv 3) (pv 6) (fun _ _ => rfl)) pa_nil)) pa_nil))) pa_nil)) pa_nil)))
      (pss_one (ps_asg (pe_op (op_addD (K := K) rfl) (pe_ix (ix_D (K := K) rfl hu) (pv 4) (pe_str) (fun _ _ => rfl)) (pe_ifExp (pt_cmpR (op_eqK (K := K) rfl hr.units) (pe_call (ok__law_draw T) (hr.mono (by decide)) rfl T.g__law_draw T.k__law_draw T.b__law_draw .nil pass0 (pa_cons (pv 0) (pa_cons (pe_int) pa_nil))) (pe_int) (nomark _)) (pe_lst (pa_cons (pv 7) pa_nil)) (pe_lst pa_nil))) (pg_sub (pv 4) (pe_str) (set_A hu))))))))
      (pss_cons (ps_asg (pe_tup (pa_cons (pe_call (ok__law_draw T) (hr.mono (by decide)) rfl T.g__law_draw T.k__law_draw T.b__law_draw .nil pass0 (pa_cons (pv 0) (pa_cons (pe_op (op_addD (K := K) rfl) (pv 2) (pe_int)) pa_nil))) (pa_cons (pe_call (ok__law_draw T) (hr.mono (by decide)) rfl T.g__law_draw T.k__law_draw T.b__law_draw .nil pass0 (pa_cons (pv 0) (pa_cons (pe_int) pa_nil))) pa_nil))) (pg_un (K := K) rfl 2 rfl (pgs_cons (pg_sub (pv 4) (pe_str) (set_A hu)) (pgs_cons (pg_sub (pv 4) (pe_str) (set_A hu)) pgs_nil))))
      (pss_cons (ps_asg (pe_call (ok__law_pick T) (hr.mono (by decide)) rfl T.g__law_pick T.k__law_pick T.b__law_pick .nil pass0 (pa_cons (pv 0) (pa_cons (pe_lst (pa_cons (pe_tup (pa_cons (pe_str) pa_nil)) (pa_cons (pe_tup (pa_cons (pe_str) (pa_cons (pe_int) pa_nil))) (pa_cons (pe_tup (pa_cons (pe_str) (pa_cons (pe_int) pa_nil))) (pa_cons (pe_tup (pa_cons (pe_str) (pa_cons (pe_int) pa_nil))) (pa_cons (pe_tup (pa_cons (pe_str) (pa_cons (pe_int) pa_nil))) (pa_cons (pe_tup (pa_cons (pe_str) (pa_cons (pe_int) pa_nil))) pa_nil))))))) pa_nil))) (pg_sub (pv 4) (pe_str) (set_A hu)))
      (pss_cons (ps_asg (pe_cmpR op_gtD (pe_call (ok__law_draw T) (hr.mono (by decide)) rfl T.g__law_draw T.k__law_draw T.b__law_draw .nil pass0 (pa_cons (pv 0) (pa_cons (pe_int) pa_nil))) (pe_int) (nomark _)) (pg_sub (pv 4) (pe_str) (set_A hu)))
      (pss_one (ps_ret (pv 4)))))))))), fnI0 rfl (ds_seq (ds_set (i := 3) (de_callI (i := 0) (da_cons (DE.dv (de_op d2_add dv_int (DE.dv (de_callI (i := 0) (da_cons dv_var da_nil))))) da_nil)))
      (ds_seq (ds_set (i := 4) (de_disp (.cons dv_str dv_var (.cons dv_str (DE.dv (de_lc (vs := [8]) (di_seq dv_var) dg_nameG dt_yesG (DE.dv (de_callI (i := 0) (da_cons (DE.dv (de_op d2_add dv_var dv_int)) da_nil))) (by decide))) (.cons dv_str (DE.dv (de_lst da_nil)) .nil)))))
      (ds_seq (ds_put (i := 4) dv_str (DE.dv (de_lc (vs := [8]) (di_seq dv_var) dg_nameG dt_yesG (DE.dv (de_op d2_gt (DE.dv (de_callI (i := 0) (da_cons dv_int da_nil))) dv_int)) (by decide))))
      (ds_seq (ds_for (di_rng1 (da_cons (DE.dv (de_cb db_len (da_cons dv_var da_nil))) da_nil)) dg_nameG (ds_for (di_rng2 (da_cons (DE.dv (de_op d2_add dv_var dv_int)) (da_cons (DE.dv (de_cb db_len (da_cons dv_var da_nil))) da_nil))) dg_nameG (ds_seq (ds_set (i := 7) (de_cb db_tuple (da_cons (DE.dv (de_cb db_sorted (da_cons (DE.dv (de_lst (da_cons (DE.dv (de_cb db_str (da_cons (DE.dv (de_op d2_ix dv_var dv_var)) da_nil))) (da_cons (DE.dv (de_cb db_str (da_cons (DE.dv (de_op d2_ix dv_var dv_var)) da_nil))) da_nil)))) da_nil))) da_nil)))
      (ds_put (i := 4) dv_str (DE.dv (de_op d2_add (dv_ixO dv_str) (dv_if (dt_test (DE.dv (de_op d2_eq (DE.dv (de_callI (i := 0) (da_cons dv_int da_nil))) dv_int))) (DE.dv (de_lst (da_cons dv_var da_nil))) (DE.dv (de_lst da_nil)))))))))
      (ds_seq (ds_unH (dv_tup (da_cons (DE.dv (de_callI (i := 0) (da_cons (DE.dv (de_op d2_add dv_var dv_int)) da_nil))) (da_cons (DE.dv (de_callI (i := 0) (da_cons dv_int da_nil))) da_nil))) (dgh_un (dghs_cons (dgh_put (i := 4) dv_str) (dghs_cons (dgh_put (i := 4) dv_str) dghs_nil))))
      (ds_seq (ds_put (i := 4) dv_str (DE.dv (de_callI (i := 0) (da_cons (DE.dv (de_lst (da_cons (dv_tup (da_cons dv_str da_nil)) (da_cons (dv_tup (da_cons dv_str (da_cons dv_int da_nil))) (da_cons (dv_tup (da_cons dv_str (da_cons dv_int da_nil))) (da_cons (dv_tup (da_cons dv_str (da_cons dv_int da_nil))) (da_cons (dv_tup (da_cons dv_str (da_cons dv_int da_nil))) (da_cons (dv_tup (da_cons dv_str (da_cons dv_int da_nil))) da_nil)))))))) da_nil))))
      (ds_seq (ds_put (i := 4) dv_str (DE.dv (de_op d2_gt (DE.dv (de_callI (i := 0) (da_cons dv_int da_nil))) dv_int)))
      (ds_ret de_move)))))))) h⟩
end
end Toy
namespace Toy
open PySem PySem.Spec PyProof.Rows L2 Kx
section
open Dm
def m__law_pool : Dm.Fn := mFn0 2 5 ((sSeq (sSet 2 (toC (mIf (mTest (frz (mOp gLtD (mVar 1) (frz (mCB gLen (mCons (mVar 0) mNil)))))) (frz (mOp gIx (mVar 0) (mVar 1))) (frz (mOp gAdd (frz (mOp gMul (mC (.int 7)) (frz (mCB gSum (mCons (frz (mSl (mVar 0) mNoPart (mPart (mC (.int 63))))) mNil))))) (mVar 1))))))
    (sSeq (sSet 3 (mCB gAbs (mCons (mVar 2) mNil)))
    (sSeq (sSet 4 (mOp gAdd (frz (mOp gAdd (frz (mOp gAdd (frz (mOp gMod (frz (mCB gInt (mCons (mVar 3) mNil))) (mC (.int 2147483629)))) (frz (mOp gMul (frz (mOp gMul (mC (.int 7919)) (mVar 1))) (mVar 1))))) (frz (mOp gMul (mC (.int 31)) (mVar 1))))) (mC (.int 17))))
    (sSeq (sSet 4 (mOp gMod (frz (mCB gInt (mCons (frz (mOp gMul (mVar 4) (mC (.int 48271)))) mNil))) (mC (.int 2147483647))))
    (sRet (mLst (mCons (frz (mOp gMul (mVar 3) (frz (mCB gInt (mCons (frz (mOp gGe (mVar 3) (frz (mOp gPow (mC (.int 10)) (mC (.int 18)))))) mNil))))) (mCons (frz (mOp gMod (frz (mCB gInt (mCons (frz (mOp gMul (mVar 4) (mVar 4))) mNil))) (mC (.int 2147483629)))) mNil)))))))))
variable {P : Program} {w : World} {K : PySem.W.Frag} {mg : Str → Option Value} {base : Heap}
theorem ok__law_pool (T : Txt K mg) : FnOk P w K mg base CX0 1 T.a__law_pool T.d__law_pool ["_law_script", "_law_k"] (spP T.W m__law_pool) := by
  have nd := sc__law_pool.nd
  refine T.F__law_pool.ok sc__law_pool (fun vs H Q E h => spP0_len (E := E) h) (fun cdv A outer s H vs Q E hr h => ?_)
  have hu := hu_of hr
  have hu65 := hu65_of hr
  exact ⟨_, (pss_cons (ps_set (i := 2) nd rfl (by first | exact Or.inl rfl | exact Or.inr rfl) (pe_ifExp (pt_cmpR op_ltD (pv 1) (pe_callB (call_lenA (K := K) rfl) (by rfl) T.no_len (by decide +kernel) (pa_cons (pv 0) pa_nil)) (nomark _)) (pe_ix (ix_D (K := K) rfl hu) (pv 0) (pv 1) (fun _ _ => rfl)) (pe_op (op_addD (K := K) rfl) (pe_op (op_mulD (K := K) rfl) (pe_int) (pe_callB (call_sumA (K := K) rfl rfl) (by rfl) T.no_sum (by decide +kernel) (pa_cons (pe_slice (sl_D (K := K) rfl) (pv 0) po_none (po_some (pe_int))) pa_nil))) (pv 1))))
      (pss_cons (ps_set (i := 3) nd rfl (by first | exact Or.inl rfl | exact Or.inr rfl) (pe_callB call_abs (by rfl) T.no_abs (by decide +kernel) (pa_cons (pv 2) pa_nil)))
      (pss_cons (ps_set (i := 4) nd rfl (by first | exact Or.inl rfl | exact Or.inr rfl) (pe_op (op_addD (K := K) rfl) (pe_op (op_addD (K := K) rfl) (pe_op (op_addD (K := K) rfl) (pe_op op_mod (pe_callTy call_int1 (by rfl) T.no_int (by decide +kernel) (pa_cons (pv 3) pa_nil)) (pe_int)) (pe_op (op_mulD (K := K) rfl) (pe_op (op_mulD (K := K) rfl) (pe_int) (pv 1)) (pv 1))) (pe_op (op_mulD (K := K) rfl) (pe_int) (pv 1))) (pe_int)))
      (pss_cons (ps_set (i := 4) nd rfl (by first | exact Or.inl rfl | exact Or.inr rfl) (pe_op op_mod (pe_callTy call_int1 (by rfl) T.no_int (by decide +kernel) (pa_cons (pe_op (op_mulD (K := K) rfl) (pv 4) (pe_int)) pa_nil)) (pe_int)))
      (pss_one (ps_ret (pe_lst (pa_cons (pe_op (op_mulD (K := K) rfl) (pv 3) (pe_callTy call_int1 (by rfl) T.no_int (by decide +kernel) (pa_cons (pe_cmpR op_geD (pv 3) (pe_op op_pow (pe_int) (pe_int)) (nomark _)) pa_nil))) (pa_cons (pe_op op_mod (pe_callTy call_int1 (by rfl) T.no_int (by decide +kernel) (pa_cons (pe_op (op_mulD (K := K) rfl) (pv 4) (pv 4)) pa_nil)) (pe_int)) pa_nil))))))))), fnP0 rfl (ds_seq (ds_set (i := 2) (DV.de (dv_if (dt_test (DE.dv (de_op d2_lt dv_var (DE.dv (de_cb db_len (da_cons dv_var da_nil)))))) (DE.dv (de_op d2_ix dv_var dv_var)) (DE.dv (de_op d2_add (DE.dv (de_op d2_mul dv_int (DE.dv (de_cb db_sum (da_cons (DE.dv (de_sl dv_var do_none (do_some dv_int))) da_nil))))) dv_var)))))
      (ds_seq (ds_set (i := 3) (de_cb db_abs (da_cons dv_var da_nil)))
      (ds_seq (ds_set (i := 4) (de_op d2_add (DE.dv (de_op d2_add (DE.dv (de_op d2_add (DE.dv (de_op d2_mod (DE.dv (de_cb db_int (da_cons dv_var da_nil))) dv_int)) (DE.dv (de_op d2_mul (DE.dv (de_op d2_mul dv_int dv_var)) dv_var)))) (DE.dv (de_op d2_mul dv_int dv_var)))) dv_int))
      (ds_seq (ds_set (i := 4) (de_op d2_mod (DE.dv (de_cb db_int (da_cons (DE.dv (de_op d2_mul dv_var dv_int)) da_nil))) dv_int))
      (ds_ret (de_lst (da_cons (DE.dv (de_op d2_mul dv_var (DE.dv (de_cb db_int (da_cons (DE.dv (de_op d2_ge dv_var (DE.dv (de_op d2_pow dv_int dv_int)))) da_nil))))) (da_cons (DE.dv (de_op d2_mod (DE.dv (de_cb db_int (da_cons (DE.dv (de_op d2_mul dv_var dv_var)) da_nil))) dv_int)) da_nil)))))))) h⟩
end
end Toy
namespace Toy
open PySem PySem.Spec PyProof.Rows L2 Kx
section
open Dm
def m__law_group : Dm.Fn := mFn0 2 8 ((sSeq (sUn (unD 2 (tgCons (tgN 2) (tgCons (tgN 3) tgNil))) (mTup (mCons (frz (mLst (mCons (mVar 1) mNil))) (mCons (frz (mOp gIx (mVar 0) (mC (.str "names")))) mNil))))
    (sSeq (sFor (itRng1 (mCons (frz (mCB gLen (mCons (mVar 3) mNil))) mNil)) (tgN 4) (sFor (itRng1 (mCons (frz (mCB gLen (mCons (mVar 3) mNil))) mNil)) (tgN 5) (sSeq (sSet 6 (mLc (itSeq (mVar 2)) [7] (tgN 7) (mTest (frz (mOp gIn (frz (mCB gTuple (mCons (frz (mCB gSorted (mCons (frz (mLst (mCons (frz (mCB gStr (mCons (frz (mOp gIx (mVar 3) (mVar 5))) mNil))) (mCons (frz (mCB gStr (mCons (frz (mOp gIx (mVar 3) (mVar 7))) mNil))) mNil)))) mNil))) mNil))) (frz (mOp gIx (mVar 0) (mC (.str "links"))))))) (mVar 7)))
    (sSet 2 (mOp gAdd (mVar 2) (frz (mOp gMul (frz (mLst (mCons (mVar 5) mNil))) (frz (mCB gInt (mCons (mAndV (frz (mOp gNe (mVar 6) (frz (mLst mNil)))) (frz (mOp gNotIn (mVar 5) (mVar 2)))) mNil))))))))))
    (sRet (mCB gSorted (mCons (frz (mLc (itSeq (mVar 2)) [5] (tgN 5) mYes (frz (mCB gInt (mCons (mVar 5) mNil))))) mNil))))))
variable {P : Program} {w : World} {K : PySem.W.Frag} {mg : Str → Option Value} {base : Heap}
theorem ok__law_group (T : Txt K mg) : FnOk P w K mg base CX0 1 T.a__law_group T.d__law_group ["_law_t", "_law_at"] (spP T.W m__law_group) := by
  have nd := sc__law_group.nd
  refine T.F__law_group.ok sc__law_group (fun vs H Q E h => spP0_len (E := E) h) (fun cdv A outer s H vs Q E hr h => ?_)
  have hu := hu_of hr
  have hu65 := hu65_of hr
  exact ⟨_, (pss_cons (ps_asg (pe_tup (pa_cons (pe_lst (pa_cons (pv 1) pa_nil)) (pa_cons (pe_ix (ix_D (K := K) rfl hu) (pv 0) (pe_str) (fun _ _ => rfl)) pa_nil))) (pg_un (K := K) rfl 2 rfl (pgs_cons (pg_name (i := 2) nd rfl (by first | exact Or.inl rfl | exact Or.inr rfl)) (pgs_cons (pg_name (i := 3) nd rfl (by first | exact Or.inl rfl | exact Or.inr rfl)) pgs_nil))))
      (pss_cons (ps_for PassesOwn.never rfl (pi_range1 (by rfl) T.no_range (pa_cons (pe_callB (call_lenA (K := K) rfl) (by rfl) T.no_len (by decide +kernel) (pa_cons (pv 3) pa_nil)) pa_nil)) (pg_name (i := 4) nd rfl (by first | exact Or.inl rfl | exact Or.inr rfl)) (pss_one (ps_for PassesOwn.never rfl (pi_range1 (by rfl) T.no_range (pa_cons (pe_callB (call_lenA (K := K) rfl) (by rfl) T.no_len (by decide +kernel) (pa_cons (pv 3) pa_nil)) pa_nil)) (pg_name (i := 5) nd rfl (by first | exact Or.inl rfl | exact Or.inr rfl)) (pss_cons (ps_setLc (i := 6) (own := [("_law_other", 7)]) rfl nd rfl rfl (sw_true rfl rfl rfl (by decide +kernel)) (pi_seq (K := K) rfl (pv 2)) (blkOk_by (N := ["_law_t", "_law_at", "_law_found", "_law_names_here", "_law_turn", "_law_one", "_law_near", "_law_other"]) (sc := defScope s__law_group) (by decide +kernel)) (fun _ _ _ _ _ => (pg_name (i := 7) nd rfl (by first | exact Or.inl rfl | exact Or.inr rfl))) (fun _ _ _ _ _ => pts_one (pt_cmpR (op_inK (K := K) rfl hu65) (pe_callTy (call_tupA (K := K) rfl) (by rfl) T.no_tuple (by decide +kernel) (pa_cons (pe_callB (call_sortA (K := K) rfl) (by rfl) T.no_sorted (by decide +kernel) (pa_cons (pe_lst (pa_cons (pe_callTy call_strA (by rfl) T.no_str (by decide +kernel) (pa_cons (pe_ix (ix_D (K := K) rfl hu) (pv 3) (pv 5) (fun _ _ => rfl)) pa_nil)) (pa_cons (pe_callTy call_strA (by rfl) T.no_str (by decide +kernel) (pa_cons (pe_ix (ix_D (K := K) rfl hu) (pv 3) (pv 7) (fun _ _ => rfl)) pa_nil)) pa_nil))) pa_nil)) pa_nil)) (pe_ix (ix_D (K := K) rfl hu) (pv 0) (pe_str) (fun _ _ => rfl)) (by rfl))) (fun _ _ _ _ _ => (pv 7)))
      (pss_one (ps_set (i := 2) nd rfl (by first | exact Or.inl rfl | exact Or.inr rfl) (pe_op (op_addD (K := K) rfl) (pv 2) (pe_op (op_mulD (K := K) rfl) (pe_lst (pa_cons (pv 5) pa_nil)) (pe_callTy call_int1 (by rfl) T.no_int (by decide +kernel) (pa_cons (pe_and (pe_cmpR (op_neK (K := K) rfl hr.units) (pv 6) (pe_lst pa_nil) (nomark _)) (pe_one (pe_cmpR (op_notInK (K := K) rfl hu65) (pv 5) (pv 2) (by rfl)))) pa_nil))))))))))
      (pss_one (ps_ret (pe_callB (call_sortA (K := K) rfl) (by rfl) T.no_sorted (by decide +kernel) (pa_cons (pe_lc (own := [("_law_one", 5)]) rfl nd (pi_seq (K := K) rfl (pv 2)) (blkOk_by (N := ["_law_t", "_law_at", "_law_found", "_law_names_here", "_law_turn", "_law_one", "_law_near", "_law_other"]) (sc := defScope s__law_group) (by decide +kernel)) (fun _ _ _ _ _ => (pg_name (i := 5) nd rfl (by first | exact Or.inl rfl | exact Or.inr rfl))) (fun _ _ _ _ _ => pts_nil) (fun _ _ _ _ _ => (pe_callTy call_int1 (by rfl) T.no_int (by decide +kernel) (pa_cons (pv 5) pa_nil)))) pa_nil)))))), fnP0 rfl (ds_seq (ds_un (dv_tup (da_cons (DE.dv (de_lst (da_cons dv_var da_nil))) (da_cons (DE.dv (de_op d2_ix dv_var dv_str)) da_nil))) (dg_un (dgs_consG dg_nameG (dgs_consG dg_nameG dgs_nilG))))
      (ds_seq (ds_for (di_rng1 (da_cons (DE.dv (de_cb db_len (da_cons dv_var da_nil))) da_nil)) dg_nameG (ds_for (di_rng1 (da_cons (DE.dv (de_cb db_len (da_cons dv_var da_nil))) da_nil)) dg_nameG (ds_seq (ds_set (i := 6) (de_lc (vs := [7]) (di_seq dv_var) dg_nameG (dt_test (DE.dv (de_op d2_in (DE.dv (de_cb db_tuple (da_cons (DE.dv (de_cb db_sorted (da_cons (DE.dv (de_lst (da_cons (DE.dv (de_cb db_str (da_cons (DE.dv (de_op d2_ix dv_var dv_var)) da_nil))) (da_cons (DE.dv (de_cb db_str (da_cons (DE.dv (de_op d2_ix dv_var dv_var)) da_nil))) da_nil)))) da_nil))) da_nil))) (DE.dv (de_op d2_ix dv_var dv_str))))) dv_var (by decide)))
      (ds_set (i := 2) (de_op d2_add dv_var (DE.dv (de_op d2_mul (DE.dv (de_lst (da_cons dv_var da_nil))) (DE.dv (de_cb db_int (da_cons (dv_andV (DE.dv (de_op d2_ne dv_var (DE.dv (de_lst da_nil)))) (DE.dv (de_op d2_notIn dv_var dv_var))) da_nil))))))))))
      (ds_ret (de_cb db_sorted (da_cons (DE.dv (de_lc (vs := [5]) (di_seq dv_var) dg_nameG dt_yesG (DE.dv (de_cb db_int (da_cons dv_var da_nil))) (by decide))) da_nil))))) h⟩
end
end Toy
namespace Toy
open PySem PySem.Spec PyProof.Rows L2 Kx
section
open Dm
def m__law_low : Dm.Fn := mFn0 2 2 ((sRet (mCB gMax (mCons (frz (mLst (mCons (frz (mCB gInt (mCons (mVar 0) mNil))) (mCons (frz (mCB gInt (mCons (frz (mOp gMinus (mC (.int 0)) (mVar 1))) mNil))) mNil)))) mNil))))
variable {P : Program} {w : World} {K : PySem.W.Frag} {mg : Str → Option Value} {base : Heap}
theorem ok__law_low (T : Txt K mg) : FnOk P w K mg base CX0 1 T.a__law_low T.d__law_low ["_law_left", "_law_more"] (spP T.W m__law_low) := by
  have nd := sc__law_low.nd
  refine T.F__law_low.ok sc__law_low (fun vs H Q E h => spP0_len (E := E) h) (fun cdv A outer s H vs Q E hr h => ?_)
  have hu := hu_of hr
  have hu65 := hu65_of hr
  exact ⟨_, (pss_one (ps_ret (pe_callB (call_maxA (K := K) rfl rfl) (by rfl) T.no_max (by decide +kernel) (pa_cons (pe_lst (pa_cons (pe_callTy call_int1 (by rfl) T.no_int (by decide +kernel) (pa_cons (pv 0) pa_nil)) (pa_cons (pe_callTy call_int1 (by rfl) T.no_int (by decide +kernel) (pa_cons (pe_op op_sub (pe_int) (pv 1)) pa_nil)) pa_nil))) pa_nil)))), fnP0 rfl (ds_ret (de_cb db_max (da_cons (DE.dv (de_lst (da_cons (DE.dv (de_cb db_int (da_cons dv_var da_nil))) (da_cons (DE.dv (de_cb db_int (da_cons (DE.dv (de_op d2_sub dv_int dv_var)) da_nil))) da_nil)))) da_nil))) h⟩
end
end Toy
namespace Toy
open PySem PySem.Spec PyProof.Rows L2 Kx
section
open Dm
def m__law_put : Dm.Fn := mFn0 3 3 ((sRet (mOp gAdd (frz (mOp gAdd (frz (mSl (mVar 0) mNoPart (mPart (mVar 1)))) (mTup (mCons (mVar 2) mNil)))) (frz (mSl (mVar 0) (mPart (frz (mOp gAdd (mVar 1) (mC (.int 1))))) mNoPart)))))
variable {P : Program} {w : World} {K : PySem.W.Frag} {mg : Str → Option Value} {base : Heap}
theorem ok__law_put (T : Txt K mg) : FnOk P w K mg base CX0 1 T.a__law_put T.d__law_put ["_law_row", "_law_at", "_law_value"] (spP T.W m__law_put) := by
  have nd := sc__law_put.nd
  refine T.F__law_put.ok sc__law_put (fun vs H Q E h => spP0_len (E := E) h) (fun cdv A outer s H vs Q E hr h => ?_)
  have hu := hu_of hr
  have hu65 := hu65_of hr
  exact ⟨_, (pss_one (ps_ret (pe_op (op_addD (K := K) rfl) (pe_op (op_addD (K := K) rfl) (pe_slice (sl_D (K := K) rfl) (pv 0) po_none (po_some (pv 1))) (pe_tup (pa_cons (pv 2) pa_nil))) (pe_slice (sl_D (K := K) rfl) (pv 0) (po_some (pe_op (op_addD (K := K) rfl) (pv 1) (pe_int))) po_none)))), fnP0 rfl (ds_ret (de_op d2_add (DE.dv (de_op d2_add (DE.dv (de_sl dv_var do_none (do_some dv_var))) (dv_tup (da_cons dv_var da_nil)))) (DE.dv (de_sl dv_var (do_some (DE.dv (de_op d2_add dv_var dv_int))) do_none)))) h⟩
end
end Toy
namespace Toy
open PySem PySem.Spec PyProof.Rows L2 Kx
section
open Dm
def m__law_stopped : Dm.Fn := mFn0 1 1 ((sRet (toC (mOrV (frz (mOp gIx (mVar 0) (mC (.int 5)))) (frz (mOp gLe (frz (mOp gIx (mVar 0) (mC (.int 4)))) (mC (.int 0))))))))
variable {P : Program} {w : World} {K : PySem.W.Frag} {mg : Str → Option Value} {base : Heap}
theorem ok__law_stopped (T : Txt K mg) : FnOk P w K mg base CX0 1 T.a__law_stopped T.d__law_stopped ["_law_s"] (spP T.W m__law_stopped) := by
  have nd := sc__law_stopped.nd
  refine T.F__law_stopped.ok sc__law_stopped (fun vs H Q E h => spP0_len (E := E) h) (fun cdv A outer s H vs Q E hr h => ?_)
  have hu := hu_of hr
  have hu65 := hu65_of hr
  exact ⟨_, (pss_one (ps_ret (pe_or (pe_ix (ix_D (K := K) rfl hu) (pv 0) (pe_int) (fun _ _ => rfl)) (pe_one (pe_cmpR op_leD (pe_ix (ix_D (K := K) rfl hu) (pv 0) (pe_int) (fun _ _ => rfl)) (pe_int) (nomark _)))))), fnP0 rfl (ds_ret (DV.de (dv_orV (DE.dv (de_op d2_ix dv_var dv_int)) (DE.dv (de_op d2_le (DE.dv (de_op d2_ix dv_var dv_int)) dv_int))))) h⟩
end
end Toy
namespace Toy
open PySem PySem.Spec PyProof.Rows L2 Kx
section
open Dm
def m__law_lined : Dm.Fn := mFn0 4 10 ((sSeq (sSet 4 (toC (mIf (mTest (mVar 3)) (frz (mCall m__law_low (mCons (frz (mOp gMinus (frz (mOp gIx (mVar 1) (mC (.int 4)))) (frz (mOp gIx (frz (mOp gIx (mVar 1) (mC (.int 1)))) (mVar 2))))) (mCons (frz (mOp gIx (mVar 1) (mC (.int 6)))) mNil)))) (frz (mOp gIx (mVar 1) (mC (.int 4)))))))
    (sSeq (sUn (unD 3 (tgCons (tgN 5) (tgCons (tgN 6) (tgCons (tgN 7) tgNil)))) (mTup (mCons (frz (mCall m__law_put (mCons (frz (mOp gIx (mVar 1) (mC (.int 0)))) (mCons (mVar 2) (mCons (mVar 3) mNil))))) (mCons (frz (mCall m__law_group (mCons (mVar 0) (mCons (mVar 2) mNil)))) (mCons (frz (mOp gIx (mVar 1) (mC (.int 2)))) mNil)))))
    (sSeq (sSet 8 (toC (mAndV (frz (mOp gEq (frz (mLc (itSeq (mVar 6)) [9] (tgN 9) (mTest (frz (mOp gIx (mVar 5) (mVar 9)))) (mVar 9))) (frz (mLst mNil)))) (frz (mCall m__law_stopped (mCons (mVar 1) mNil))))))
    (sSeq (sFor (itSeq (mVar 6)) (tgN 9) (sSet 7 (mCall m__law_put (mCons (mVar 7) (mCons (mVar 9) (mCons (mVar 8) mNil))))))
    (sRet (mLst (mCons (frz (mOp gAdd (mTup (mCons (mVar 5) (mCons (frz (mCall m__law_put (mCons (frz (mOp gIx (mVar 1) (mC (.int 1)))) (mCons (mVar 2) (mCons (mC (.int 0)) mNil))))) (mCons (mVar 7) (mCons (frz (mOp gIx (mVar 1) (mC (.int 3)))) (mCons (mVar 4) mNil)))))) (frz (mSl (mVar 1) (mPart (mC (.int 5))) mNoPart)))) (mCons (mC (.str "done")) mNil)))))))))
variable {P : Program} {w : World} {K : PySem.W.Frag} {mg : Str → Option Value} {base : Heap}
theorem ok__law_lined (T : Txt K mg) : FnOk P w K mg base CX0 2 T.a__law_lined T.d__law_lined ["_law_t", "_law_s", "_law_at", "_law_has_line"] (spP T.W m__law_lined) := by
  have nd := sc__law_lined.nd
  refine T.F__law_lined.ok sc__law_lined (fun vs H Q E h => spP0_len (E := E) h) (fun cdv A outer s H vs Q E hr h => ?_)
  have hu := hu_of hr
  have hu65 := hu65_of hr
  exact ⟨_, (pss_cons (ps_set (i := 4) nd rfl (by first | exact Or.inl rfl | exact Or.inr rfl) (pe_ifExp (pt_val (pv 3)) (pe_call (ok__law_low T) (hr.mono (by decide)) rfl T.g__law_low T.k__law_low T.b__law_low .nil pass0 (pa_cons (pe_op op_sub (pe_ix (ix_D (K := K) rfl hu) (pv 1) (pe_int) (fun _ _ => rfl)) (pe_ix (ix_D (K := K) rfl hu) (pe_ix (ix_D (K := K) rfl hu) (pv 1) (pe_int) (fun _ _ => rfl)) (pv 2) (fun _ _ => rfl))) (pa_cons (pe_ix (ix_D (K := K) rfl hu) (pv 1) (pe_int) (fun _ _ => rfl)) pa_nil))) (pe_ix (ix_D (K := K) rfl hu) (pv 1) (pe_int) (fun _ _ => rfl))))
      (pss_cons (ps_asg (pe_tup (pa_cons (pe_call (ok__law_put T) (hr.mono (by decide)) rfl T.g__law_put T.k__law_put T.b__law_put .nil pass0 (pa_cons (pe_ix (ix_D (K := K) rfl hu) (pv 1) (pe_int) (fun _ _ => rfl)) (pa_cons (pv 2) (pa_cons (pv 3) pa_nil)))) (pa_cons (pe_call (ok__law_group T) (hr.mono (by decide)) rfl T.g__law_group T.k__law_group T.b__law_group .nil pass0 (pa_cons (pv 0) (pa_cons (pv 2) pa_nil))) (pa_cons (pe_ix (ix_D (K := K) rfl hu) (pv 1) (pe_int) (fun _ _ => rfl)) pa_nil)))) (pg_un (K := K) rfl 3 rfl (pgs_cons (pg_name (i := 5) nd rfl (by first | exact Or.inl rfl | exact Or.inr rfl)) (pgs_cons (pg_name (i := 6) nd rfl (by first | exact Or.inl rfl | exact Or.inr rfl)) (pgs_cons (pg_name (i := 7) nd rfl (by first | exact Or.inl rfl | exact Or.inr rfl)) pgs_nil)))))
      (pss_cons (ps_set (i := 8) nd rfl (by first | exact Or.inl rfl | exact Or.inr rfl) (pe_and (pe_cmpR (op_eqK (K := K) rfl hr.units) (pe_lc (own := [("_law_one", 9)]) rfl nd (pi_seq (K := K) rfl (pv 6)) (blkOk_by (N := ["_law_t", "_law_s", "_law_at", "_law_has_line", "_law_left", "_law_lines", "_law_group_here", "_law_heard", "_law_has_heard", "_law_one"]) (sc := defScope s__law_lined) (by decide +kernel)) (fun _ _ _ _ _ => (pg_name (i := 9) nd rfl (by first | exact Or.inl rfl | exact Or.inr rfl))) (fun _ _ _ _ _ => pts_one (pt_val (pe_ix (ix_D (K := K) rfl hu) (pv 5) (pv 9) (fun _ _ => rfl)))) (fun _ _ _ _ _ => (pv 9))) (pe_lst pa_nil) (nomark _)) (pe_one (pe_call (ok__law_stopped T) (hr.mono (by decide)) rfl T.g__law_stopped T.k__law_stopped T.b__law_stopped .nil pass0 (pa_cons (pv 1) pa_nil)))))
      (pss_cons (ps_for PassesOwn.never rfl (pi_seq (K := K) rfl (pv 6)) (pg_name (i := 9) nd rfl (by first | exact Or.inl rfl | exact Or.inr rfl)) (pss_one (ps_set (i := 7) nd rfl (by first | exact Or.inl rfl | exact Or.inr rfl) (pe_call (ok__law_put T) (hr.mono (by decide)) rfl T.g__law_put T.k__law_put T.b__law_put .nil pass0 (pa_cons (pv 7) (pa_cons (pv 9) (pa_cons (pv 8) pa_nil)))))))
      (pss_one (ps_ret (pe_lst (pa_cons (pe_op (op_addD (K := K) rfl) (pe_tup (pa_cons (pv 5) (pa_cons (pe_call (ok__law_put T) (hr.mono (by decide)) rfl T.g__law_put T.k__law_put T.b__law_put .nil pass0 (pa_cons (pe_ix (ix_D (K := K) rfl hu) (pv 1) (pe_int) (fun _ _ => rfl)) (pa_cons (pv 2) (pa_cons (pe_int) pa_nil)))) (pa_cons (pv 7) (pa_cons (pe_ix (ix_D (K := K) rfl hu) (pv 1) (pe_int) (fun _ _ => rfl)) (pa_cons (pv 4) pa_nil)))))) (pe_slice (sl_D (K := K) rfl) (pv 1) (po_some (pe_int)) po_none)) (pa_cons (pe_str) pa_nil))))))))), fnP0 rfl (ds_seq (ds_set (i := 4) (DV.de (dv_if (dt_B dv_var) (DE.dv (de_call (da_cons (DE.dv (de_op d2_sub (DE.dv (de_op d2_ix dv_var dv_int)) (DE.dv (de_op d2_ix (DE.dv (de_op d2_ix dv_var dv_int)) dv_var)))) (da_cons (DE.dv (de_op d2_ix dv_var dv_int)) da_nil)))) (DE.dv (de_op d2_ix dv_var dv_int)))))
      (ds_seq (ds_un (dv_tup (da_cons (DE.dv (de_call (da_cons (DE.dv (de_op d2_ix dv_var dv_int)) (da_cons dv_var (da_cons dv_var da_nil))))) (da_cons (DE.dv (de_call (da_cons dv_var (da_cons dv_var da_nil)))) (da_cons (DE.dv (de_op d2_ix dv_var dv_int)) da_nil)))) (dg_un (dgs_consG dg_nameG (dgs_consG dg_nameG (dgs_consG dg_nameG dgs_nilG)))))
      (ds_seq (ds_set (i := 8) (DV.de (dv_andV (DE.dv (de_op d2_eq (DE.dv (de_lc (vs := [9]) (di_seq dv_var) dg_nameG (dt_B (DE.dv (de_op d2_ix dv_var dv_var))) dv_var (by decide))) (DE.dv (de_lst da_nil)))) (DE.dv (de_call (da_cons dv_var da_nil))))))
      (ds_seq (ds_for (di_seq dv_var) dg_nameG (ds_set (i := 7) (de_call (da_cons dv_var (da_cons dv_var (da_cons dv_var da_nil))))))
      (ds_ret (de_lst (da_cons (DE.dv (de_op d2_add (dv_tup (da_cons dv_var (da_cons (DE.dv (de_call (da_cons (DE.dv (de_op d2_ix dv_var dv_int)) (da_cons dv_var (da_cons dv_int da_nil))))) (da_cons dv_var (da_cons (DE.dv (de_op d2_ix dv_var dv_int)) (da_cons dv_var da_nil)))))) (DE.dv (de_sl dv_var (do_some dv_int) do_none)))) (da_cons dv_str da_nil)))))))) h⟩
end
end Toy
namespace Toy
open PySem PySem.Spec PyProof.Rows L2 Kx
section
open Dm
def m__law_word : Dm.Fn := mFn0 4 8 ((sSeq (sIf (mTest (frz (mOp gIx (frz (mOp gIx (mVar 1) (mC (.int 0)))) (mVar 2)))) (sRet (toC (mIf (mAnd (mNot (mTest (frz (mOp gIx (mVar 1) (mC (.int 5)))))) (mTest (frz (mOp gGe (frz (mOp gIx (mVar 1) (mC (.int 4)))) (mVar 3))))) (mC (.str "taken")) (mC (.str "house"))))) sNx)
    (sSeq (sSet 4 (mCall m__law_group (mCons (mVar 0) (mCons (mVar 2) mNil))))
    (sSeq (sSet 5 (toC (mIf (mTest (frz (mOp gNe (frz (mLc (itSeq (mVar 4)) [7] (tgN 7) (mTest (frz (mOp gIx (frz (mOp gIx (mVar 1) (mC (.int 0)))) (mVar 7)))) (mVar 7))) (frz (mLst mNil))))) (frz (mCall m__law_stopped (mCons (mVar 1) mNil))) (frz (mOp gIx (frz (mOp gIx (mVar 1) (mC (.int 2)))) (mVar 2))))))
    (sSeq (sIf (mAnd (mTest (frz (mOp gIx (frz (mOp gIx (mVar 0) (mC (.str "heeds")))) (mVar 2)))) (mTest (mVar 5))) (sRet (toC (mC (.str "list")))) sNx)
    (sSeq (sIf (mTest (frz (mOp gGt (frz (mOp gAdd (frz (mCB gSum (mCons (frz (mLc (itSeq (mVar 4)) [7] (tgN 7) (mNot (mTest (frz (mOp gIx (frz (mOp gIx (mVar 1) (mC (.int 0)))) (mVar 7))))) (frz (mOp gIx (frz (mOp gIx (mVar 1) (mC (.int 1)))) (mVar 7))))) mNil))) (mVar 3))) (frz (mOp gIx (frz (mOp gIx (mVar 0) (mC (.str "limits")))) (mVar 2)))))) (sRet (toC (mC (.str "limit")))) sNx)
    (sSeq (sSet 6 (mOp gIx (frz (mDisp [((mC (.str "nothing")), (mC (.int 0))), ((mC (.str "times")), (mC (.int 1))), ((mC (.str "sum")), (mVar 3))])) (frz (mOp gIx (frz (mOp gIx (mVar 0) (mC (.str "memory")))) (mC (.int 0))))))
    (sSeq (sIf (mAnd (mTest (frz (mOp gNe (frz (mOp gIx (frz (mOp gIx (mVar 0) (mC (.str "memory")))) (mC (.int 0)))) (mC (.str "nothing"))))) (mTest (frz (mOp gGt (frz (mOp gAdd (frz (mOp gIx (mVar 1) (mC (.int 3)))) (mVar 6))) (frz (mOp gIx (frz (mOp gIx (mVar 0) (mC (.str "memory")))) (mC (.int 1)))))))) (sRet (toC (mC (.str "memory")))) sNx)
    (sRet (toC (mC (.str "taken"))))))))))))
variable {P : Program} {w : World} {K : PySem.W.Frag} {mg : Str → Option Value} {base : Heap}
theorem ok__law_word (T : Txt K mg) : FnOk P w K mg base CX0 2 T.a__law_word T.d__law_word ["_law_t", "_law_s", "_law_at", "_law_units"] (spP T.W m__law_word) := by
  have nd := sc__law_word.nd
  refine T.F__law_word.ok sc__law_word (fun vs H Q E h => spP0_len (E := E) h) (fun cdv A outer s H vs Q E hr h => ?_)
  have hu := hu_of hr
  have hu65 := hu65_of hr
  exact ⟨_, (pss_cons (ps_if (pt_val (pe_ix (ix_D (K := K) rfl hu) (pe_ix (ix_D (K := K) rfl hu) (pv 1) (pe_int) (fun _ _ => rfl)) (pv 2) (fun _ _ => rfl))) (pss_one (ps_ret (pe_ifExp (PW.pt (pw_and (pt_not (pt_val (pe_ix (ix_D (K := K) rfl hu) (pv 1) (pe_int) (fun _ _ => rfl)))) (pw_and1 (pt_cmpR op_geD (pe_ix (ix_D (K := K) rfl hu) (pv 1) (pe_int) (fun _ _ => rfl)) (pv 3) (nomark _))))) (pe_str) (pe_str)))) pss_nil)
      (pss_cons (ps_set (i := 4) nd rfl (by first | exact Or.inl rfl | exact Or.inr rfl) (pe_call (ok__law_group T) (hr.mono (by decide)) rfl T.g__law_group T.k__law_group T.b__law_group .nil pass0 (pa_cons (pv 0) (pa_cons (pv 2) pa_nil))))
      (pss_cons (ps_set (i := 5) nd rfl (by first | exact Or.inl rfl | exact Or.inr rfl) (pe_ifExp (pt_cmpR (op_neK (K := K) rfl hr.units) (pe_lc (own := [("_law_one", 7)]) rfl nd (pi_seq (K := K) rfl (pv 4)) (blkOk_by (N := ["_law_t", "_law_s", "_law_at", "_law_units", "_law_group_here", "_law_knows", "_law_cost", "_law_one"]) (sc := defScope s__law_word) (by decide +kernel)) (fun _ _ _ _ _ => (pg_name (i := 7) nd rfl (by first | exact Or.inl rfl | exact Or.inr rfl))) (fun _ _ _ _ _ => pts_one (pt_val (pe_ix (ix_D (K := K) rfl hu) (pe_ix (ix_D (K := K) rfl hu) (pv 1) (pe_int) (fun _ _ => rfl)) (pv 7) (fun _ _ => rfl)))) (fun _ _ _ _ _ => (pv 7))) (pe_lst pa_nil) (nomark _)) (pe_call (ok__law_stopped T) (hr.mono (by decide)) rfl T.g__law_stopped T.k__law_stopped T.b__law_stopped .nil pass0 (pa_cons (pv 1) pa_nil)) (pe_ix (ix_D (K := K) rfl hu) (pe_ix (ix_D (K := K) rfl hu) (pv 1) (pe_int) (fun _ _ => rfl)) (pv 2) (fun _ _ => rfl))))
      (pss_cons (ps_if (PW.pt (pw_and (pt_val (pe_ix (ix_D (K := K) rfl hu) (pe_ix (ix_D (K := K) rfl hu) (pv 0) (pe_str) (fun _ _ => rfl)) (pv 2) (fun _ _ => rfl))) (pw_and1 (pt_val (pv 5))))) (pss_one (ps_ret (pe_str))) pss_nil)
      (pss_cons (ps_if (pt_cmpR op_gtD (pe_op (op_addD (K := K) rfl) (pe_callB (call_sumA (K := K) rfl rfl) (by rfl) T.no_sum (by decide +kernel) (pa_cons (pe_lc (own := [("_law_one", 7)]) rfl nd (pi_seq (K := K) rfl (pv 4)) (blkOk_by (N := ["_law_t", "_law_s", "_law_at", "_law_units", "_law_group_here", "_law_knows", "_law_cost", "_law_one"]) (sc := defScope s__law_word) (by decide +kernel)) (fun _ _ _ _ _ => (pg_name (i := 7) nd rfl (by first | exact Or.inl rfl | exact Or.inr rfl))) (fun _ _ _ _ _ => pts_one (pt_not (pt_val (pe_ix (ix_D (K := K) rfl hu) (pe_ix (ix_D (K := K) rfl hu) (pv 1) (pe_int) (fun _ _ => rfl)) (pv 7) (fun _ _ => rfl))))) (fun _ _ _ _ _ => (pe_ix (ix_D (K := K) rfl hu) (pe_ix (ix_D (K := K) rfl hu) (pv 1) (pe_int) (fun _ _ => rfl)) (pv 7) (fun _ _ => rfl)))) pa_nil)) (pv 3)) (pe_ix (ix_D (K := K) rfl hu) (pe_ix (ix_D (K := K) rfl hu) (pv 0) (pe_str) (fun _ _ => rfl)) (pv 2) (fun _ _ => rfl)) (nomark _)) (pss_one (ps_ret (pe_str))) pss_nil)
      (pss_cons (ps_set (i := 6) nd rfl (by first | exact Or.inl rfl | exact Or.inr rfl) (pe_ix (ix_D (K := K) rfl hu) (pe_disp (pps_cons (pe_str) (pe_int) (pps_cons (pe_str) (pe_int) (pps_cons (pe_str) (pv 3) pps_nil))) (by rfl) (by rfl) (List.cons_ne_nil _ _) (by decide)) (pe_ix (ix_D (K := K) rfl hu) (pe_ix (ix_D (K := K) rfl hu) (pv 0) (pe_str) (fun _ _ => rfl)) (pe_int) (fun _ _ => rfl)) (fun _ _ => rfl)))
      (pss_cons (ps_if (PW.pt (pw_and (pt_cmpR (op_neK (K := K) rfl hr.units) (pe_ix (ix_D (K := K) rfl hu) (pe_ix (ix_D (K := K) rfl hu) (pv 0) (pe_str) (fun _ _ => rfl)) (pe_int) (fun _ _ => rfl)) (pe_str) (nomark _)) (pw_and1 (pt_cmpR op_gtD (pe_op (op_addD (K := K) rfl) (pe_ix (ix_D (K := K) rfl hu) (pv 1) (pe_int) (fun _ _ => rfl)) (pv 6)) (pe_ix (ix_D (K := K) rfl hu) (pe_ix (ix_D (K := K) rfl hu) (pv 0) (pe_str) (fun _ _ => rfl)) (pe_int) (fun _ _ => rfl)) (nomark _))))) (pss_one (ps_ret (pe_str))) pss_nil)
      (pss_one (ps_ret (pe_str)))))))))), fnP0 rfl (ds_seq (ds_if (dt_B (DE.dv (de_op d2_ix (DE.dv (de_op d2_ix dv_var dv_int)) dv_var))) (ds_ret (DV.de (dv_if (dt_and (dt_not (dt_B (DE.dv (de_op d2_ix dv_var dv_int)))) (dt_test (DE.dv (de_op d2_ge (DE.dv (de_op d2_ix dv_var dv_int)) dv_var)))) dv_str dv_str))) ds_next)
      (ds_seq (ds_set (i := 4) (de_call (da_cons dv_var (da_cons dv_var da_nil))))
      (ds_seq (ds_set (i := 5) (DV.de (dv_if (dt_test (DE.dv (de_op d2_ne (DE.dv (de_lc (vs := [7]) (di_seq dv_var) dg_nameG (dt_B (DE.dv (de_op d2_ix (DE.dv (de_op d2_ix dv_var dv_int)) dv_var))) dv_var (by decide))) (DE.dv (de_lst da_nil))))) (DE.dv (de_call (da_cons dv_var da_nil))) (DE.dv (de_op d2_ix (DE.dv (de_op d2_ix dv_var dv_int)) dv_var)))))
      (ds_seq (ds_if (dt_and (dt_B (DE.dv (de_op d2_ix (DE.dv (de_op d2_ix dv_var dv_str)) dv_var))) (dt_B dv_var)) (ds_ret (DV.de dv_str)) ds_next)
      (ds_seq (ds_if (dt_test (DE.dv (de_op d2_gt (DE.dv (de_op d2_add (DE.dv (de_cb db_sum (da_cons (DE.dv (de_lc (vs := [7]) (di_seq dv_var) dg_nameG (dt_not (dt_B (DE.dv (de_op d2_ix (DE.dv (de_op d2_ix dv_var dv_int)) dv_var)))) (DE.dv (de_op d2_ix (DE.dv (de_op d2_ix dv_var dv_int)) dv_var)) (by decide))) da_nil))) dv_var)) (DE.dv (de_op d2_ix (DE.dv (de_op d2_ix dv_var dv_str)) dv_var))))) (ds_ret (DV.de dv_str)) ds_next)
      (ds_seq (ds_set (i := 6) (de_op d2_ix (DE.dv (de_disp (.cons dv_str dv_int (.cons dv_str dv_int (.cons dv_str dv_var .nil))))) (DE.dv (de_op d2_ix (DE.dv (de_op d2_ix dv_var dv_str)) dv_int))))
      (ds_seq (ds_if (dt_and (dt_test (DE.dv (de_op d2_ne (DE.dv (de_op d2_ix (DE.dv (de_op d2_ix dv_var dv_str)) dv_int)) dv_str))) (dt_test (DE.dv (de_op d2_gt (DE.dv (de_op d2_add (DE.dv (de_op d2_ix dv_var dv_int)) dv_var)) (DE.dv (de_op d2_ix (DE.dv (de_op d2_ix dv_var dv_str)) dv_int)))))) (ds_ret (DV.de dv_str)) ds_next)
      (ds_ret (DV.de dv_str))))))))) h⟩
end
end Toy
namespace Toy
open PySem PySem.Spec PyProof.Rows L2 Kx
section
open Dm
def m__law_paid : Dm.Fn := mFn0 4 6 ((sSeq (sSet 4 (mCall m__law_word (mCons (mVar 0) (mCons (mVar 1) (mCons (mVar 2) (mCons (mVar 3) mNil))))))
    (sSeq (sIf (mTest (frz (mOp gNe (mVar 4) (mC (.str "taken"))))) (sRet (mLst (mCons (mVar 1) (mCons (mVar 4) mNil)))) sNx)
    (sSeq (sIf (mTest (frz (mOp gIx (frz (mOp gIx (mVar 1) (mC (.int 0)))) (mVar 2)))) (sRet (mLst (mCons (frz (mOp gAdd (frz (mOp gAdd (frz (mSl (mVar 1) mNoPart (mPart (mC (.int 3))))) (mTup (mCons (mC (.int 0)) (mCons (frz (mCall m__law_low (mCons (frz (mOp gMinus (frz (mOp gIx (mVar 1) (mC (.int 4)))) (mVar 3))) (mCons (frz (mOp gIx (mVar 1) (mC (.int 6)))) mNil)))) mNil))))) (frz (mSl (mVar 1) (mPart (mC (.int 5))) mNoPart)))) (mCons (mVar 4) mNil)))) sNx)
    (sSeq (sSet 5 (mOp gIx (frz (mDisp [((mC (.str "nothing")), (mC (.int 0))), ((mC (.str "times")), (mC (.int 1))), ((mC (.str "sum")), (mVar 3))])) (frz (mOp gIx (frz (mOp gIx (mVar 0) (mC (.str "memory")))) (mC (.int 0))))))
    (sRet (mLst (mCons (frz (mOp gAdd (mTup (mCons (frz (mOp gIx (mVar 1) (mC (.int 0)))) (mCons (frz (mCall m__law_put (mCons (frz (mOp gIx (mVar 1) (mC (.int 1)))) (mCons (mVar 2) (mCons (frz (mOp gAdd (frz (mOp gIx (frz (mOp gIx (mVar 1) (mC (.int 1)))) (mVar 2))) (mVar 3))) mNil))))) (mCons (frz (mOp gIx (mVar 1) (mC (.int 2)))) (mCons (frz (mOp gAdd (frz (mOp gIx (mVar 1) (mC (.int 3)))) (mVar 5))) mNil))))) (frz (mSl (mVar 1) (mPart (mC (.int 4))) mNoPart)))) (mCons (mVar 4) mNil)))))))))
variable {P : Program} {w : World} {K : PySem.W.Frag} {mg : Str → Option Value} {base : Heap}
theorem ok__law_paid (T : Txt K mg) : FnOk P w K mg base CX0 3 T.a__law_paid T.d__law_paid ["_law_t", "_law_s", "_law_at", "_law_units"] (spP T.W m__law_paid) := by
  have nd := sc__law_paid.nd
  refine T.F__law_paid.ok sc__law_paid (fun vs H Q E h => spP0_len (E := E) h) (fun cdv A outer s H vs Q E hr h => ?_)
  have hu := hu_of hr
  have hu65 := hu65_of hr
  exact ⟨_, (pss_cons (ps_set (i := 4) nd rfl (by first | exact Or.inl rfl | exact Or.inr rfl) (pe_call (ok__law_word T) (hr.mono (by decide)) rfl T.g__law_word T.k__law_word T.b__law_word .nil pass0 (pa_cons (pv 0) (pa_cons (pv 1) (pa_cons (pv 2) (pa_cons (pv 3) pa_nil))))))
      (pss_cons (ps_if (pt_cmpR (op_neK (K := K) rfl hr.units) (pv 4) (pe_str) (nomark _)) (pss_one (ps_ret (pe_lst (pa_cons (pv 1) (pa_cons (pv 4) pa_nil))))) pss_nil)
      (pss_cons (ps_if (pt_val (pe_ix (ix_D (K := K) rfl hu) (pe_ix (ix_D (K := K) rfl hu) (pv 1) (pe_int) (fun _ _ => rfl)) (pv 2) (fun _ _ => rfl))) (pss_one (ps_ret (pe_lst (pa_cons (pe_op (op_addD (K := K) rfl) (pe_op (op_addD (K := K) rfl) (pe_slice (sl_D (K := K) rfl) (pv 1) po_none (po_some (pe_int))) (pe_tup (pa_cons (pe_int) (pa_cons (pe_call (ok__law_low T) (hr.mono (by decide)) rfl T.g__law_low T.k__law_low T.b__law_low .nil pass0 (pa_cons (pe_op op_sub (pe_ix (ix_D (K := K) rfl hu) (pv 1) (pe_int) (fun _ _ => rfl)) (pv 3)) (pa_cons (pe_ix (ix_D (K := K) rfl hu) (pv 1) (pe_int) (fun _ _ => rfl)) pa_nil))) pa_nil)))) (pe_slice (sl_D (K := K) rfl) (pv 1) (po_some (pe_int)) po_none)) (pa_cons (pv 4) pa_nil))))) pss_nil)
      (pss_cons (ps_set (i := 5) nd rfl (by first | exact Or.inl rfl | exact Or.inr rfl) (pe_ix (ix_D (K := K) rfl hu) (pe_disp (pps_cons (pe_str) (pe_int) (pps_cons (pe_str) (pe_int) (pps_cons (pe_str) (pv 3) pps_nil))) (by rfl) (by rfl) (List.cons_ne_nil _ _) (by decide)) (pe_ix (ix_D (K := K) rfl hu) (pe_ix (ix_D (K := K) rfl hu) (pv 0) (pe_str) (fun _ _ => rfl)) (pe_int) (fun _ _ => rfl)) (fun _ _ => rfl)))
      (pss_one (ps_ret (pe_lst (pa_cons (pe_op (op_addD (K := K) rfl) (pe_tup (pa_cons (pe_ix (ix_D (K := K) rfl hu) (pv 1) (pe_int) (fun _ _ => rfl)) (pa_cons (pe_call (ok__law_put T) (hr.mono (by decide)) rfl T.g__law_put T.k__law_put T.b__law_put .nil pass0 (pa_cons (pe_ix (ix_D (K := K) rfl hu) (pv 1) (pe_int) (fun _ _ => rfl)) (pa_cons (pv 2) (pa_cons (pe_op (op_addD (K := K) rfl) (pe_ix (ix_D (K := K) rfl hu) (pe_ix (ix_D (K := K) rfl hu) (pv 1) (pe_int) (fun _ _ => rfl)) (pv 2) (fun _ _ => rfl)) (pv 3)) pa_nil)))) (pa_cons (pe_ix (ix_D (K := K) rfl hu) (pv 1) (pe_int) (fun _ _ => rfl)) (pa_cons (pe_op (op_addD (K := K) rfl) (pe_ix (ix_D (K := K) rfl hu) (pv 1) (pe_int) (fun _ _ => rfl)) (pv 5)) pa_nil))))) (pe_slice (sl_D (K := K) rfl) (pv 1) (po_some (pe_int)) po_none)) (pa_cons (pv 4) pa_nil))))))))), fnP0 rfl (ds_seq (ds_set (i := 4) (de_call (da_cons dv_var (da_cons dv_var (da_cons dv_var (da_cons dv_var da_nil))))))
      (ds_seq (ds_if (dt_test (DE.dv (de_op d2_ne dv_var dv_str))) (ds_ret (de_lst (da_cons dv_var (da_cons dv_var da_nil)))) ds_next)
      (ds_seq (ds_if (dt_B (DE.dv (de_op d2_ix (DE.dv (de_op d2_ix dv_var dv_int)) dv_var))) (ds_ret (de_lst (da_cons (DE.dv (de_op d2_add (DE.dv (de_op d2_add (DE.dv (de_sl dv_var do_none (do_some dv_int))) (dv_tup (da_cons dv_int (da_cons (DE.dv (de_call (da_cons (DE.dv (de_op d2_sub (DE.dv (de_op d2_ix dv_var dv_int)) dv_var)) (da_cons (DE.dv (de_op d2_ix dv_var dv_int)) da_nil)))) da_nil))))) (DE.dv (de_sl dv_var (do_some dv_int) do_none)))) (da_cons dv_var da_nil)))) ds_next)
      (ds_seq (ds_set (i := 5) (de_op d2_ix (DE.dv (de_disp (.cons dv_str dv_int (.cons dv_str dv_int (.cons dv_str dv_var .nil))))) (DE.dv (de_op d2_ix (DE.dv (de_op d2_ix dv_var dv_str)) dv_int))))
      (ds_ret (de_lst (da_cons (DE.dv (de_op d2_add (dv_tup (da_cons (DE.dv (de_op d2_ix dv_var dv_int)) (da_cons (DE.dv (de_call (da_cons (DE.dv (de_op d2_ix dv_var dv_int)) (da_cons dv_var (da_cons (DE.dv (de_op d2_add (DE.dv (de_op d2_ix (DE.dv (de_op d2_ix dv_var dv_int)) dv_var)) dv_var)) da_nil))))) (da_cons (DE.dv (de_op d2_ix dv_var dv_int)) (da_cons (DE.dv (de_op d2_add (DE.dv (de_op d2_ix dv_var dv_int)) dv_var)) da_nil))))) (DE.dv (de_sl dv_var (do_some dv_int) do_none)))) (da_cons dv_var da_nil)))))))) h⟩
end
end Toy
namespace Toy
open PySem PySem.Spec PyProof.Rows L2 Kx
section
open Dm
def m__law_after : Dm.Fn := mFn0 3 3 ((sSeq (sIf (mTest (frz (mOp gEq (frz (mOp gIx (mVar 2) (mC (.int 0)))) (mC (.str "pay"))))) (sRet (mCall m__law_paid (mCons (mVar 0) (mCons (mVar 1) (mCons (frz (mBML gIdx (frz (mOp gIx (mVar 0) (mC (.str "names")))) (mCons (frz (mOp gIx (mVar 2) (mC (.int 1)))) mNil))) (mCons (frz (mOp gIx (mVar 2) (mC (.int 2)))) mNil)))))) sNx)
    (sSeq (sIf (mTest (frz (mOp gEq (frz (mOp gIx (mVar 2) (mC (.int 0)))) (mC (.str "lose"))))) (sRet (mLst (mCons (frz (mOp gAdd (frz (mSl (mVar 1) mNoPart (mPart (mC (.int 4))))) (mTup (mCons (frz (mCall m__law_low (mCons (frz (mOp gIx (mVar 1) (mC (.int 4)))) (mCons (mC (.int 0)) mNil)))) (mCons (mC (.bl true)) (mCons (mC (.int 0)) mNil)))))) (mCons (mC (.str "done")) mNil)))) sNx)
    (sSeq (sIf (mTest (frz (mOp gEq (frz (mOp gIx (mVar 2) (mC (.int 0)))) (mC (.str "top"))))) (sRet (mLst (mCons (frz (mOp gAdd (frz (mSl (mVar 1) mNoPart (mPart (mC (.int 4))))) (mTup (mCons (frz (mOp gAdd (frz (mOp gIx (mVar 1) (mC (.int 4)))) (frz (mOp gIx (mVar 2) (mC (.int 1)))))) (mCons (frz (mOp gIx (mVar 1) (mC (.int 5)))) (mCons (frz (mOp gMinus (frz (mOp gIx (mVar 1) (mC (.int 6)))) (frz (mOp gIx (mVar 2) (mC (.int 1)))))) mNil)))))) (mCons (mC (.str "done")) mNil)))) sNx)
    (sRet (mCall m__law_lined (mCons (mVar 0) (mCons (mVar 1) (mCons (frz (mBML gIdx (frz (mOp gIx (mVar 0) (mC (.str "names")))) (mCons (frz (mOp gIx (mVar 2) (mC (.int 1)))) mNil))) (mCons (frz (mOp gEq (frz (mOp gIx (mVar 2) (mC (.int 0)))) (mC (.str "line")))) mNil))))))))))
variable {P : Program} {w : World} {K : PySem.W.Frag} {mg : Str → Option Value} {base : Heap}
theorem ok__law_after (T : Txt K mg) : FnOk P w K mg base CX0 4 T.a__law_after T.d__law_after ["_law_t", "_law_s", "_law_event"] (spP T.W m__law_after) := by
  have nd := sc__law_after.nd
  refine T.F__law_after.ok sc__law_after (fun vs H Q E h => spP0_len (E := E) h) (fun cdv A outer s H vs Q E hr h => ?_)
  have hu := hu_of hr
  have hu65 := hu65_of hr
  exact ⟨_, (pss_cons (ps_if (pt_cmpR (op_eqK (K := K) rfl hr.units) (pe_ix (ix_D (K := K) rfl hu) (pv 2) (pe_int) (fun _ _ => rfl)) (pe_str) (nomark _)) (pss_one (ps_ret (pe_call (ok__law_paid T) (hr.mono (by decide)) rfl T.g__law_paid T.k__law_paid T.b__law_paid .nil pass0 (pa_cons (pv 0) (pa_cons (pv 1) (pa_cons (pe_bm PySem.F.plainAttrs_list PySem.F.slot_list_index PySem.F.type_list_index (mt_idxK (K := K) rfl) (pe_ix (ix_D (K := K) rfl hu) (pv 0) (pe_str) (fun _ _ => rfl)) (pa_cons (pe_ix (ix_D (K := K) rfl hu) (pv 2) (pe_int) (fun _ _ => rfl)) pa_nil)) (pa_cons (pe_ix (ix_D (K := K) rfl hu) (pv 2) (pe_int) (fun _ _ => rfl)) pa_nil))))))) pss_nil)
      (pss_cons (ps_if (pt_cmpR (op_eqK (K := K) rfl hr.units) (pe_ix (ix_D (K := K) rfl hu) (pv 2) (pe_int) (fun _ _ => rfl)) (pe_str) (nomark _)) (pss_one (ps_ret (pe_lst (pa_cons (pe_op (op_addD (K := K) rfl) (pe_slice (sl_D (K := K) rfl) (pv 1) po_none (po_some (pe_int))) (pe_tup (pa_cons (pe_call (ok__law_low T) (hr.mono (by decide)) rfl T.g__law_low T.k__law_low T.b__law_low .nil pass0 (pa_cons (pe_ix (ix_D (K := K) rfl hu) (pv 1) (pe_int) (fun _ _ => rfl)) (pa_cons (pe_int) pa_nil))) (pa_cons (pe_bl) (pa_cons (pe_int) pa_nil))))) (pa_cons (pe_str) pa_nil))))) pss_nil)
      (pss_cons (ps_if (pt_cmpR (op_eqK (K := K) rfl hr.units) (pe_ix (ix_D (K := K) rfl hu) (pv 2) (pe_int) (fun _ _ => rfl)) (pe_str) (nomark _)) (pss_one (ps_ret (pe_lst (pa_cons (pe_op (op_addD (K := K) rfl) (pe_slice (sl_D (K := K) rfl) (pv 1) po_none (po_some (pe_int))) (pe_tup (pa_cons (pe_op (op_addD (K := K) rfl) (pe_ix (ix_D (K := K) rfl hu) (pv 1) (pe_int) (fun _ _ => rfl)) (pe_ix (ix_D (K := K) rfl hu) (pv 2) (pe_int) (fun _ _ => rfl))) (pa_cons (pe_ix (ix_D (K := K) rfl hu) (pv 1) (pe_int) (fun _ _ => rfl)) (pa_cons (pe_op op_sub (pe_ix (ix_D (K := K) rfl hu) (pv 1) (pe_int) (fun _ _ => rfl)) (pe_ix (ix_D (K := K) rfl hu) (pv 2) (pe_int) (fun _ _ => rfl))) pa_nil))))) (pa_cons (pe_str) pa_nil))))) pss_nil)
      (pss_one (ps_ret (pe_call (ok__law_lined T) (hr.mono (by decide)) rfl T.g__law_lined T.k__law_lined T.b__law_lined .nil pass0 (pa_cons (pv 0) (pa_cons (pv 1) (pa_cons (pe_bm PySem.F.plainAttrs_list PySem.F.slot_list_index PySem.F.type_list_index (mt_idxK (K := K) rfl) (pe_ix (ix_D (K := K) rfl hu) (pv 0) (pe_str) (fun _ _ => rfl)) (pa_cons (pe_ix (ix_D (K := K) rfl hu) (pv 2) (pe_int) (fun _ _ => rfl)) pa_nil)) (pa_cons (pe_cmpR (op_eqK (K := K) rfl hr.units) (pe_ix (ix_D (K := K) rfl hu) (pv 2) (pe_int) (fun _ _ => rfl)) (pe_str) (nomark _)) pa_nil)))))))))), fnP0 rfl (ds_seq (ds_if (dt_test (DE.dv (de_op d2_eq (DE.dv (de_op d2_ix dv_var dv_int)) dv_str))) (ds_ret (de_call (da_cons dv_var (da_cons dv_var (da_cons (DE.dv (de_idx (DE.dv (de_op d2_ix dv_var dv_str)) (da_cons (DE.dv (de_op d2_ix dv_var dv_int)) da_nil))) (da_cons (DE.dv (de_op d2_ix dv_var dv_int)) da_nil)))))) ds_next)
      (ds_seq (ds_if (dt_test (DE.dv (de_op d2_eq (DE.dv (de_op d2_ix dv_var dv_int)) dv_str))) (ds_ret (de_lst (da_cons (DE.dv (de_op d2_add (DE.dv (de_sl dv_var do_none (do_some dv_int))) (dv_tup (da_cons (DE.dv (de_call (da_cons (DE.dv (de_op d2_ix dv_var dv_int)) (da_cons dv_int da_nil)))) (da_cons dv_bl (da_cons dv_int da_nil)))))) (da_cons dv_str da_nil)))) ds_next)
      (ds_seq (ds_if (dt_test (DE.dv (de_op d2_eq (DE.dv (de_op d2_ix dv_var dv_int)) dv_str))) (ds_ret (de_lst (da_cons (DE.dv (de_op d2_add (DE.dv (de_sl dv_var do_none (do_some dv_int))) (dv_tup (da_cons (DE.dv (de_op d2_add (DE.dv (de_op d2_ix dv_var dv_int)) (DE.dv (de_op d2_ix dv_var dv_int)))) (da_cons (DE.dv (de_op d2_ix dv_var dv_int)) (da_cons (DE.dv (de_op d2_sub (DE.dv (de_op d2_ix dv_var dv_int)) (DE.dv (de_op d2_ix dv_var dv_int)))) da_nil)))))) (da_cons dv_str da_nil)))) ds_next)
      (ds_ret (de_call (da_cons dv_var (da_cons dv_var (da_cons (DE.dv (de_idx (DE.dv (de_op d2_ix dv_var dv_str)) (da_cons (DE.dv (de_op d2_ix dv_var dv_int)) da_nil))) (da_cons (DE.dv (de_op d2_eq (DE.dv (de_op d2_ix dv_var dv_int)) dv_str)) da_nil))))))))) h⟩
end
end Toy
namespace Toy
open PySem PySem.Spec PyProof.Rows L2 Kx
section
open Dm
def m__law_can : Dm.Fn := mFn0 3 3 ((sSeq (sIf (mTest (frz (mOp gEq (frz (mOp gIx (mVar 2) (mC (.int 0)))) (mC (.str "again"))))) (sRet (toC (mC (.bl false)))) sNx)
    (sSeq (sIf (mTest (frz (mOp gEq (frz (mOp gIx (mVar 2) (mC (.int 0)))) (mC (.str "pay"))))) (sRet (toC (mC (.bl true)))) sNx)
    (sSeq (sIf (mTest (frz (mOp gEq (frz (mOp gIx (mVar 2) (mC (.int 0)))) (mC (.str "lose"))))) (sRet (toC (mNotV (frz (mOp gIx (mVar 1) (mC (.int 5))))))) sNx)
    (sSeq (sIf (mTest (frz (mOp gEq (frz (mOp gIx (mVar 2) (mC (.int 0)))) (mC (.str "top"))))) (sRet (toC (mAndV (mNotV (frz (mOp gIx (mVar 1) (mC (.int 5))))) (frz (mOp gLe (frz (mOp gIx (mVar 2) (mC (.int 1)))) (frz (mOp gIx (mVar 1) (mC (.int 6))))))))) sNx)
    (sRet (mOp gEq (frz (mOp gIx (frz (mOp gIx (mVar 1) (mC (.int 0)))) (frz (mBML gIdx (frz (mOp gIx (mVar 0) (mC (.str "names")))) (mCons (frz (mOp gIx (mVar 2) (mC (.int 1)))) mNil))))) (frz (mOp gEq (frz (mOp gIx (mVar 2) (mC (.int 0)))) (mC (.str "cut")))))))))))
variable {P : Program} {w : World} {K : PySem.W.Frag} {mg : Str → Option Value} {base : Heap}
theorem ok__law_can (T : Txt K mg) : FnOk P w K mg base CX0 1 T.a__law_can T.d__law_can ["_law_t", "_law_s", "_law_event"] (spP T.W m__law_can) := by
  have nd := sc__law_can.nd
  refine T.F__law_can.ok sc__law_can (fun vs H Q E h => spP0_len (E := E) h) (fun cdv A outer s H vs Q E hr h => ?_)
  have hu := hu_of hr
  have hu65 := hu65_of hr
  exact ⟨_, (pss_cons (ps_if (pt_cmpR (op_eqK (K := K) rfl hr.units) (pe_ix (ix_D (K := K) rfl hu) (pv 2) (pe_int) (fun _ _ => rfl)) (pe_str) (nomark _)) (pss_one (ps_ret (pe_bl))) pss_nil)
      (pss_cons (ps_if (pt_cmpR (op_eqK (K := K) rfl hr.units) (pe_ix (ix_D (K := K) rfl hu) (pv 2) (pe_int) (fun _ _ => rfl)) (pe_str) (nomark _)) (pss_one (ps_ret (pe_bl))) pss_nil)
      (pss_cons (ps_if (pt_cmpR (op_eqK (K := K) rfl hr.units) (pe_ix (ix_D (K := K) rfl hu) (pv 2) (pe_int) (fun _ _ => rfl)) (pe_str) (nomark _)) (pss_one (ps_ret (pe_not (pe_ix (ix_D (K := K) rfl hu) (pv 1) (pe_int) (fun _ _ => rfl))))) pss_nil)
      (pss_cons (ps_if (pt_cmpR (op_eqK (K := K) rfl hr.units) (pe_ix (ix_D (K := K) rfl hu) (pv 2) (pe_int) (fun _ _ => rfl)) (pe_str) (nomark _)) (pss_one (ps_ret (pe_and (pe_not (pe_ix (ix_D (K := K) rfl hu) (pv 1) (pe_int) (fun _ _ => rfl))) (pe_one (pe_cmpR op_leD (pe_ix (ix_D (K := K) rfl hu) (pv 2) (pe_int) (fun _ _ => rfl)) (pe_ix (ix_D (K := K) rfl hu) (pv 1) (pe_int) (fun _ _ => rfl)) (nomark _)))))) pss_nil)
      (pss_one (ps_ret (pe_cmpR (op_eqK (K := K) rfl hr.units) (pe_ix (ix_D (K := K) rfl hu) (pe_ix (ix_D (K := K) rfl hu) (pv 1) (pe_int) (fun _ _ => rfl)) (pe_bm PySem.F.plainAttrs_list PySem.F.slot_list_index PySem.F.type_list_index (mt_idxK (K := K) rfl) (pe_ix (ix_D (K := K) rfl hu) (pv 0) (pe_str) (fun _ _ => rfl)) (pa_cons (pe_ix (ix_D (K := K) rfl hu) (pv 2) (pe_int) (fun _ _ => rfl)) pa_nil)) (fun _ _ => rfl)) (pe_cmpR (op_eqK (K := K) rfl hr.units) (pe_ix (ix_D (K := K) rfl hu) (pv 2) (pe_int) (fun _ _ => rfl)) (pe_str) (nomark _)) (nomark _)))))))), fnP0 rfl (ds_seq (ds_if (dt_test (DE.dv (de_op d2_eq (DE.dv (de_op d2_ix dv_var dv_int)) dv_str))) (ds_ret (DV.de dv_bl)) ds_next)
      (ds_seq (ds_if (dt_test (DE.dv (de_op d2_eq (DE.dv (de_op d2_ix dv_var dv_int)) dv_str))) (ds_ret (DV.de dv_bl)) ds_next)
      (ds_seq (ds_if (dt_test (DE.dv (de_op d2_eq (DE.dv (de_op d2_ix dv_var dv_int)) dv_str))) (ds_ret (DV.de (dv_notV (DE.dv (de_op d2_ix dv_var dv_int))))) ds_next)
      (ds_seq (ds_if (dt_test (DE.dv (de_op d2_eq (DE.dv (de_op d2_ix dv_var dv_int)) dv_str))) (ds_ret (DV.de (dv_andV (dv_notV (DE.dv (de_op d2_ix dv_var dv_int))) (DE.dv (de_op d2_le (DE.dv (de_op d2_ix dv_var dv_int)) (DE.dv (de_op d2_ix dv_var dv_int))))))) ds_next)
      (ds_ret (de_op d2_eq (DE.dv (de_op d2_ix (DE.dv (de_op d2_ix dv_var dv_int)) (DE.dv (de_idx (DE.dv (de_op d2_ix dv_var dv_str)) (da_cons (DE.dv (de_op d2_ix dv_var dv_int)) da_nil))))) (DE.dv (de_op d2_eq (DE.dv (de_op d2_ix dv_var dv_int)) dv_str)))))))) h⟩
end
end Toy
namespace Toy
open PySem PySem.Spec PyProof.Rows L2 Kx
section
open Dm
def m__law_events : Dm.Fn := mFn0 1 3 ((sSeq (sSet 1 (mOp gAdd (frz (mLc (itSeq (frz (mOp gIx (mVar 0) (mC (.str "names"))))) [2] (tgN 2) mYes (mTup (mCons (mC (.str "cut")) (mCons (mVar 2) mNil))))) (frz (mLc (itSeq (frz (mOp gIx (mVar 0) (mC (.str "names"))))) [2] (tgN 2) mYes (mTup (mCons (mC (.str "line")) (mCons (mVar 2) mNil)))))))
    (sSeq (sFor (itSeq (frz (mOp gIx (mVar 0) (mC (.str "names"))))) (tgN 2) (sSet 1 (mOp gAdd (mVar 1) (frz (mLst (mCons (mTup (mCons (mC (.str "pay")) (mCons (mVar 2) (mCons (mC (.int 1)) mNil)))) (mCons (mTup (mCons (mC (.str "pay")) (mCons (mVar 2) (mCons (mC (.int 2)) mNil)))) mNil)))))))
    (sSeq (sSet 1 (mOp gAdd (mVar 1) (frz (mLst (mCons (mTup (mCons (mC (.str "top")) (mCons (mC (.int 1)) mNil))) (mCons (mTup (mCons (mC (.str "top")) (mCons (mC (.int 2)) mNil))) (mCons (mTup (mCons (mC (.str "lose")) mNil)) mNil)))))))
    (sRet (mOp gAdd (mVar 1) (frz (mLc (itSeq (frz (mOp gIx (mVar 0) (mC (.str "names"))))) [2] (tgN 2) mYes (mTup (mCons (mC (.str "again")) (mCons (mVar 2) mNil)))))))))))
variable {P : Program} {w : World} {K : PySem.W.Frag} {mg : Str → Option Value} {base : Heap}
theorem ok__law_events (T : Txt K mg) : FnOk P w K mg base CX0 1 T.a__law_events T.d__law_events ["_law_t"] (spP T.W m__law_events) := by
  have nd := sc__law_events.nd
  refine T.F__law_events.ok sc__law_events (fun vs H Q E h => spP0_len (E := E) h) (fun cdv A outer s H vs Q E hr h => ?_)
  have hu := hu_of hr
  have hu65 := hu65_of hr
  exact ⟨_, (pss_cons (ps_set (i := 1) nd rfl (by first | exact Or.inl rfl | exact Or.inr rfl) (pe_op (op_addD (K := K) rfl) (pe_lc (own := [("_law_name", 2)]) rfl nd (pi_seq (K := K) rfl (pe_ix (ix_D (K := K) rfl hu) (pv 0) (pe_str) (fun _ _ => rfl))) (blkOk_by (N := ["_law_t", "_law_found", "_law_name"]) (sc := defScope s__law_events) (by decide +kernel)) (fun _ _ _ _ _ => (pg_name (i := 2) nd rfl (by first | exact Or.inl rfl | exact Or.inr rfl))) (fun _ _ _ _ _ => pts_nil) (fun _ _ _ _ _ => (pe_tup (pa_cons (pe_str) (pa_cons (pv 2) pa_nil))))) (pe_lc (own := [("_law_name", 2)]) rfl nd (pi_seq (K := K) rfl (pe_ix (ix_D (K := K) rfl hu) (pv 0) (pe_str) (fun _ _ => rfl))) (blkOk_by (N := ["_law_t", "_law_found", "_law_name"]) (sc := defScope s__law_events) (by decide +kernel)) (fun _ _ _ _ _ => (pg_name (i := 2) nd rfl (by first | exact Or.inl rfl | exact Or.inr rfl))) (fun _ _ _ _ _ => pts_nil) (fun _ _ _ _ _ => (pe_tup (pa_cons (pe_str) (pa_cons (pv 2) pa_nil)))))))
      (pss_cons (ps_for PassesOwn.never rfl (pi_seq (K := K) rfl (pe_ix (ix_D (K := K) rfl hu) (pv 0) (pe_str) (fun _ _ => rfl))) (pg_name (i := 2) nd rfl (by first | exact Or.inl rfl | exact Or.inr rfl)) (pss_one (ps_set (i := 1) nd rfl (by first | exact Or.inl rfl | exact Or.inr rfl) (pe_op (op_addD (K := K) rfl) (pv 1) (pe_lst (pa_cons (pe_tup (pa_cons (pe_str) (pa_cons (pv 2) (pa_cons (pe_int) pa_nil)))) (pa_cons (pe_tup (pa_cons (pe_str) (pa_cons (pv 2) (pa_cons (pe_int) pa_nil)))) pa_nil)))))))
      (pss_cons (ps_set (i := 1) nd rfl (by first | exact Or.inl rfl | exact Or.inr rfl) (pe_op (op_addD (K := K) rfl) (pv 1) (pe_lst (pa_cons (pe_tup (pa_cons (pe_str) (pa_cons (pe_int) pa_nil))) (pa_cons (pe_tup (pa_cons (pe_str) (pa_cons (pe_int) pa_nil))) (pa_cons (pe_tup (pa_cons (pe_str) pa_nil)) pa_nil))))))
      (pss_one (ps_ret (pe_op (op_addD (K := K) rfl) (pv 1) (pe_lc (own := [("_law_name", 2)]) rfl nd (pi_seq (K := K) rfl (pe_ix (ix_D (K := K) rfl hu) (pv 0) (pe_str) (fun _ _ => rfl))) (blkOk_by (N := ["_law_t", "_law_found", "_law_name"]) (sc := defScope s__law_events) (by decide +kernel)) (fun _ _ _ _ _ => (pg_name (i := 2) nd rfl (by first | exact Or.inl rfl | exact Or.inr rfl))) (fun _ _ _ _ _ => pts_nil) (fun _ _ _ _ _ => (pe_tup (pa_cons (pe_str) (pa_cons (pv 2) pa_nil))))))))))), fnP0 rfl (ds_seq (ds_set (i := 1) (de_op d2_add (DE.dv (de_lc (vs := [2]) (di_seq (DE.dv (de_op d2_ix dv_var dv_str))) dg_nameG dt_yesG (dv_tup (da_cons dv_str (da_cons dv_var da_nil))) (by decide))) (DE.dv (de_lc (vs := [2]) (di_seq (DE.dv (de_op d2_ix dv_var dv_str))) dg_nameG dt_yesG (dv_tup (da_cons dv_str (da_cons dv_var da_nil))) (by decide)))))
      (ds_seq (ds_for (di_seq (DE.dv (de_op d2_ix dv_var dv_str))) dg_nameG (ds_set (i := 1) (de_op d2_add dv_var (DE.dv (de_lst (da_cons (dv_tup (da_cons dv_str (da_cons dv_var (da_cons dv_int da_nil)))) (da_cons (dv_tup (da_cons dv_str (da_cons dv_var (da_cons dv_int da_nil)))) da_nil)))))))
      (ds_seq (ds_set (i := 1) (de_op d2_add dv_var (DE.dv (de_lst (da_cons (dv_tup (da_cons dv_str (da_cons dv_int da_nil))) (da_cons (dv_tup (da_cons dv_str (da_cons dv_int da_nil))) (da_cons (dv_tup (da_cons dv_str da_nil)) da_nil)))))))
      (ds_ret (de_op d2_add dv_var (DE.dv (de_lc (vs := [2]) (di_seq (DE.dv (de_op d2_ix dv_var dv_str))) dg_nameG dt_yesG (dv_tup (da_cons dv_str (da_cons dv_var da_nil))) (by decide)))))))) h⟩
end
end Toy
namespace Toy
open PySem PySem.Spec PyProof.Rows L2 Kx
section
open Dm
def m__law_choices : Dm.Fn := mFn0 2 3 ((sRet (mLc (itSeq (frz (mCall m__law_events (mCons (mVar 0) mNil)))) [2] (tgN 2) (mTest (frz (mCall m__law_can (mCons (mVar 0) (mCons (mVar 1) (mCons (mVar 2) mNil)))))) (mVar 2))))
variable {P : Program} {w : World} {K : PySem.W.Frag} {mg : Str → Option Value} {base : Heap}
theorem ok__law_choices (T : Txt K mg) : FnOk P w K mg base CX0 2 T.a__law_choices T.d__law_choices ["_law_t", "_law_s"] (spP T.W m__law_choices) := by
  have nd := sc__law_choices.nd
  refine T.F__law_choices.ok sc__law_choices (fun vs H Q E h => spP0_len (E := E) h) (fun cdv A outer s H vs Q E hr h => ?_)
  have hu := hu_of hr
  have hu65 := hu65_of hr
  exact ⟨_, (pss_one (ps_ret (pe_lc (own := [("_law_event", 2)]) rfl nd (pi_seq (K := K) rfl (pe_call (ok__law_events T) (hr.mono (by decide)) rfl T.g__law_events T.k__law_events T.b__law_events .nil pass0 (pa_cons (pv 0) pa_nil))) (blkOk_by (N := ["_law_t", "_law_s", "_law_event"]) (sc := defScope s__law_choices) (by decide +kernel)) (fun _ _ _ _ _ => (pg_name (i := 2) nd rfl (by first | exact Or.inl rfl | exact Or.inr rfl))) (fun _ _ _ _ _ => pts_one (pt_val (pe_call (ok__law_can T) (hr.mono (by decide)) rfl T.g__law_can T.k__law_can T.b__law_can .nil pass0 (pa_cons (pv 0) (pa_cons (pv 1) (pa_cons (pv 2) pa_nil)))))) (fun _ _ _ _ _ => (pv 2))))), fnP0 rfl (ds_ret (de_lc (vs := [2]) (di_seq (DE.dv (de_call (da_cons dv_var da_nil)))) dg_nameG (dt_B (DE.dv (de_call (da_cons dv_var (da_cons dv_var (da_cons dv_var da_nil)))))) dv_var (by decide))) h⟩
end
end Toy
namespace Toy
open PySem PySem.Spec PyProof.Rows L2 Kx
section
open Dm
def m__law_steps : Dm.Fn := mFn0 2 6 ((sSeq (sSet 2 (mLst mNil))
    (sSeq (sFor (itSeq (frz (mCall m__law_choices (mCons (mVar 0) (mCons (mVar 1) mNil))))) (tgN 3) (sSeq (sUn (unD 2 (tgCons (tgN 4) (tgCons (tgN 5) tgNil))) (frz (mCall m__law_after (mCons (mVar 0) (mCons (mVar 1) (mCons (mVar 3) mNil))))))
    (sApp 2 (mTup (mCons (mVar 3) (mCons (mVar 5) (mCons (mVar 4) mNil)))))))
    (sRet (mMove 2)))))
variable {P : Program} {w : World} {K : PySem.W.Frag} {mg : Str → Option Value} {base : Heap}
theorem ok__law_steps (T : Txt K mg) : FnOk P w K mg base CX0 5 T.a__law_steps T.d__law_steps ["_law_t", "_law_s"] (spP T.W m__law_steps) := by
  have nd := sc__law_steps.nd
  refine T.F__law_steps.ok sc__law_steps (fun vs H Q E h => spP0_len (E := E) h) (fun cdv A outer s H vs Q E hr h => ?_)
  have hu := hu_of hr
  have hu65 := hu65_of hr
  exact ⟨_, (pss_cons (ps_set (i := 2) nd rfl (by first | exact Or.inl rfl | exact Or.inr rfl) (pe_lst pa_nil))
      (pss_cons (ps_for PassesOwn.never rfl (pi_seq (K := K) rfl (pe_call (ok__law_choices T) (hr.mono (by decide)) rfl T.g__law_choices T.k__law_choices T.b__law_choices .nil pass0 (pa_cons (pv 0) (pa_cons (pv 1) pa_nil)))) (pg_name (i := 3) nd rfl (by first | exact Or.inl rfl | exact Or.inr rfl)) (pss_cons (ps_asg (pe_call (ok__law_after T) (hr.mono (by decide)) rfl T.g__law_after T.k__law_after T.b__law_after .nil pass0 (pa_cons (pv 0) (pa_cons (pv 1) (pa_cons (pv 3) pa_nil)))) (pg_un (K := K) rfl 2 rfl (pgs_cons (pg_name (i := 4) nd rfl (by first | exact Or.inl rfl | exact Or.inr rfl)) (pgs_cons (pg_name (i := 5) nd rfl (by first | exact Or.inl rfl | exact Or.inr rfl)) pgs_nil))))
      (pss_one (ps_expr (pe_bm PySem.F.plainAttrs_list PySem.F.slot_list_append PySem.F.type_list_append mt_append (pv 2) (pa_cons (pe_tup (pa_cons (pv 3) (pa_cons (pv 5) (pa_cons (pv 4) pa_nil)))) pa_nil))))))
      (pss_one (ps_ret (pv 2))))), fnP0 rfl (ds_seq (ds_set (i := 2) (de_lst da_nil))
      (ds_seq (ds_for (di_seq (DE.dv (de_call (da_cons dv_var (da_cons dv_var da_nil))))) dg_nameG (ds_seq (ds_un (DE.dv (de_call (da_cons dv_var (da_cons dv_var (da_cons dv_var da_nil))))) (dg_un (dgs_consG dg_nameG (dgs_consG dg_nameG dgs_nilG))))
      (ds_app (i := 2) (dv_tup (da_cons dv_var (da_cons dv_var (da_cons dv_var da_nil)))))))
      (ds_ret de_move))) h⟩
end
end Toy
namespace Toy
open PySem PySem.Spec PyProof.Rows L2 Kx
section
open Dm
def m_Town_getitem : Dm.Fn := mFn0 2 2 ((sSeq (sIf (mOr (mNot (mTest (frz (mCall m_is_name (mCons (mVar 1) mNil))))) (mTest (frz (mOp gNotIn (mVar 1) (frz (mFld [1] "_by_name" (mVar 0))))))) sNever sNx)
    (sRet (mOp gIx (frz (mFld [1] "_by_name" (mVar 0))) (mVar 1)))))
variable {P : Program} {w : World} {K : PySem.W.Frag} {mg : Str → Option Value} {base : Heap}
theorem ok_Town_getitem (T : Txt K mg) : FnOk P w K mg base CX0 2 T.a_Town_getitem T.d_Town_getitem ["self", "at"] (spP T.W m_Town_getitem) := by
  have nd := sc_Town_getitem.nd
  refine T.F_Town_getitem.ok sc_Town_getitem (fun vs H Q E h => spP0_len (E := E) h) (fun cdv A outer s H vs Q E hr h => ?_)
  have hu := hu_of hr
  have hu65 := hu65_of hr
  exact ⟨_, (pss_cons (ps_if (PW.pt (pw_or (pt_not (pt_val (pe_call (ok_is_name T) (hr.mono (by decide)) rfl T.g_is_name T.k_is_name T.b_is_name .nil pass0 (pa_cons (pv 1) pa_nil)))) (pw_or1 (pt_cmpR (op_notInK (K := K) rfl hu65) (pv 1) (pe_fldK (K := K) rfl (pv 0) rfl) (by rfl))))) (pss_one (ps_never)) pss_nil)
      (pss_one (ps_ret (pe_ix (ix_D (K := K) rfl hu) (pe_fldK (K := K) rfl (pv 0) rfl) (pv 1) (fun _ _ => rfl))))), fnP0 rfl (ds_seq (ds_if (dt_or (dt_not (dt_B (DE.dv (de_call (da_cons dv_var da_nil))))) (dt_test (DE.dv (de_op d2_notIn dv_var (DE.dv (de_fld (cs := [1]) (List.forall_mem_cons.mpr ⟨⟨T.cl_Town, T.n_Town__by_name⟩, List.forall_mem_nil _⟩) dv_var)))))) ds_neverG ds_next)
      (ds_ret (de_op d2_ix (DE.dv (de_fld (cs := [1]) (List.forall_mem_cons.mpr ⟨⟨T.cl_Town, T.n_Town__by_name⟩, List.forall_mem_nil _⟩) dv_var)) dv_var))) h⟩
end
end Toy
namespace Toy
open PySem PySem.Spec PyProof.Rows L2 Kx
section
open Dm
def m_Town_contains : Dm.Fn := mFn0 2 2 ((sRet (toC (mAndV (frz (mCall m_is_name (mCons (mVar 1) mNil))) (frz (mOp gIn (mVar 1) (frz (mFld [1] "_by_name" (mVar 0)))))))))
variable {P : Program} {w : World} {K : PySem.W.Frag} {mg : Str → Option Value} {base : Heap}
theorem ok_Town_contains (T : Txt K mg) : FnOk P w K mg base CX0 2 T.a_Town_contains T.d_Town_contains ["self", "x"] (spP T.W m_Town_contains) := by
  have nd := sc_Town_contains.nd
  refine T.F_Town_contains.ok sc_Town_contains (fun vs H Q E h => spP0_len (E := E) h) (fun cdv A outer s H vs Q E hr h => ?_)
  have hu := hu_of hr
  have hu65 := hu65_of hr
  exact ⟨_, (pss_one (ps_ret (pe_and (pe_call (ok_is_name T) (hr.mono (by decide)) rfl T.g_is_name T.k_is_name T.b_is_name .nil pass0 (pa_cons (pv 1) pa_nil)) (pe_one (pe_cmpR (op_inK (K := K) rfl hu65) (pv 1) (pe_fldK (K := K) rfl (pv 0) rfl) (by rfl)))))), fnP0 rfl (ds_ret (DV.de (dv_andV (DE.dv (de_call (da_cons dv_var da_nil))) (DE.dv (de_op d2_in dv_var (DE.dv (de_fld (cs := [1]) (List.forall_mem_cons.mpr ⟨⟨T.cl_Town, T.n_Town__by_name⟩, List.forall_mem_nil _⟩) dv_var))))))) h⟩
end
end Toy
namespace Toy
open PySem PySem.Spec PyProof.Rows L2 Kx
section
open Dm
def m_Town_names : Dm.Fn := mFn0 1 2 ((sRet (mLc (itSeq (frz (mFld [1] "_tills" (mVar 0)))) [1] (tgN 1) mYes (frz (mFld [0] "name" (mVar 1))))))
variable {P : Program} {w : World} {K : PySem.W.Frag} {mg : Str → Option Value} {base : Heap}
theorem ok_Town_names (T : Txt K mg) : FnOk P w K mg base CX0 1 T.a_Town_names T.d_Town_names ["self"] (spP T.W m_Town_names) := by
  have nd := sc_Town_names.nd
  refine T.F_Town_names.ok sc_Town_names (fun vs H Q E h => spP0_len (E := E) h) (fun cdv A outer s H vs Q E hr h => ?_)
  have hu := hu_of hr
  have hu65 := hu65_of hr
  exact ⟨_, (pss_one (ps_ret (pe_lc (own := [("till", 1)]) rfl nd (pi_seq (K := K) rfl (pe_fldK (K := K) rfl (pv 0) rfl)) (blkOk_by (N := ["self", "till"]) (sc := defScope s_Town_names) (by decide +kernel)) (fun _ _ _ _ _ => (pg_name (i := 1) nd rfl (by first | exact Or.inl rfl | exact Or.inr rfl))) (fun _ _ _ _ _ => pts_nil) (fun _ _ _ _ _ => (pe_fldK (K := K) rfl (pv 1) rfl))))), fnP0 rfl (ds_ret (de_lc (vs := [1]) (di_seq (DE.dv (de_fld (cs := [1]) (List.forall_mem_cons.mpr ⟨⟨T.cl_Town, T.n_Town__tills⟩, List.forall_mem_nil _⟩) dv_var))) dg_nameG dt_yesG (DE.dv (de_fld (cs := [0]) (List.forall_mem_cons.mpr ⟨⟨T.cl_Till, T.n_Till_name⟩, List.forall_mem_nil _⟩) dv_var)) (by decide))) h⟩
end
end Toy
namespace Toy
open PySem PySem.Spec PyProof.Rows L2 Kx
section
open Dm
def m_joined_names : Dm.Fn := mFn0 3 7 ((sSeq (sSet 3 (mDisp [((mVar 2), (mC (.bl true)))]))
    (sSeq (sSet 4 (toC (mC (.bl true))))
    (sSeq (sWhile 100000 (mTest (mVar 4)) (sSeq (sSet 4 (toC (mC (.bl false))))
    (sFor (itSeq (mVar 1)) (unD 2 (tgCons (tgN 5) (tgCons (tgN 6) tgNil))) (sIf (mPeek (fun _ => true) (mTest (frz (mOp gNe (frz (mOp gIn (mVar 5) (mVar 3))) (frz (mOp gIn (mVar 6) (mVar 3))))))) (sSeq (sPut 3 (mVar 5) (mC (.bl true)))
    (sSeq (sPut 3 (mVar 6) (mC (.bl true)))
    (sSet 4 (toC (mC (.bl true)))))) sNx))))
    (sRet (mLc (itSeq (mVar 0)) [5] (tgN 5) (mPeek (fun _ => true) (mTest (frz (mOp gIn (mVar 5) (mVar 3))))) (mVar 5)))))))
variable {P : Program} {w : World} {K : PySem.W.Frag} {mg : Str → Option Value} {base : Heap}
theorem ok_joined_names (T : Txt K mg) : FnOk P w K mg base CX0 1 T.a_joined_names T.d_joined_names ["names", "links", "name"] (spP T.W m_joined_names) := by
  have nd := sc_joined_names.nd
  refine T.F_joined_names.ok sc_joined_names (fun vs H Q E h => spP0_len (E := E) h) (fun cdv A outer s H vs Q E hr h => ?_)
  have hu := hu_of hr
  have hu65 := hu65_of hr
  exact ⟨_, (pss_cons (ps_set (i := 3) nd rfl (by first | exact Or.inl rfl | exact Or.inr rfl) (pe_disp (pps_cons (pv 2) (pe_bl) pps_nil) (by rfl) (by rfl) (List.cons_ne_nil _ _) (by decide)))
      (pss_cons (ps_set (i := 4) nd rfl (by first | exact Or.inl rfl | exact Or.inr rfl) (pe_bl))
      (pss_cons (ps_while PassesOwn.never (pt_val (pv 4)) (pss_cons (ps_set (i := 4) nd rfl (by first | exact Or.inl rfl | exact Or.inr rfl) (pe_bl))
      (pss_one (ps_for PassesOwn.never rfl (pi_seq (K := K) rfl (pv 1)) (pg_un (K := K) rfl 2 rfl (pgs_cons (pg_name (i := 5) nd rfl (by first | exact Or.inl rfl | exact Or.inr rfl)) (pgs_cons (pg_name (i := 6) nd rfl (by first | exact Or.inl rfl | exact Or.inr rfl)) pgs_nil))) (pss_one (ps_if (pt_cmpR (op_neK (K := K) rfl hr.units) (pe_cmpR (op_inK (K := K) rfl hu65) (pv 5) (pv 3) (by rfl)) (pe_cmpR (op_inK (K := K) rfl hu65) (pv 6) (pv 3) (by rfl)) (nomark _)) (pss_cons (ps_asg (pe_bl) (pg_sub (pv 3) (pv 5) (set_A hu)))
      (pss_cons (ps_asg (pe_bl) (pg_sub (pv 3) (pv 6) (set_A hu)))
      (pss_one (ps_set (i := 4) nd rfl (by first | exact Or.inl rfl | exact Or.inr rfl) (pe_bl))))) pss_nil))))))
      (pss_one (ps_ret (pe_lc (own := [("one", 5)]) rfl nd (pi_seq (K := K) rfl (pv 0)) (blkOk_by (N := ["names", "links", "name", "found", "grows", "one", "other"]) (sc := defScope s_joined_names) (by decide +kernel)) (fun _ _ _ _ _ => (pg_name (i := 5) nd rfl (by first | exact Or.inl rfl | exact Or.inr rfl))) (fun _ _ _ _ _ => pts_one (pt_cmpR (op_inK (K := K) rfl hu65) (pv 5) (pv 3) (by rfl))) (fun _ _ _ _ _ => (pv 5)))))))), fnP0 rfl (ds_seq (ds_set (i := 3) (de_disp (.cons dv_var dv_bl .nil)))
      (ds_seq (ds_set (i := 4) (DV.de dv_bl))
      (ds_seq (ds_while (n := 100000) (dt_B dv_var) (ds_seq (ds_set (i := 4) (DV.de dv_bl))
      (ds_for (di_seq dv_var) (dg_un (dgs_consG dg_nameG (dgs_consG dg_nameG dgs_nilG))) (ds_if (dt_peek (dt_test (DE.dv (de_op d2_ne (DE.dv (de_op d2_in dv_var dv_var)) (DE.dv (de_op d2_in dv_var dv_var)))))) (ds_seq (ds_put (i := 3) dv_var dv_bl)
      (ds_seq (ds_put (i := 3) dv_var dv_bl)
      (ds_set (i := 4) (DV.de dv_bl)))) ds_next))))
      (ds_ret (de_lc (vs := [5]) (di_seq dv_var) dg_nameG (dt_peek (dt_test (DE.dv (de_op d2_in dv_var dv_var)))) dv_var (by decide)))))) h⟩
end
end Toy
namespace Toy
open PySem PySem.Spec PyProof.Rows L2 Kx
section
open Dm
def m_Town_group : Dm.Fn := mFn0 2 2 ((sSeq (sIf (mTest (mInOwn 1 m_Town_contains true (mVar 1) (mVar 0))) sNever sNx)
    (sRet (mCall m_joined_names (mCons (frz (mMeth 1 "names" m_Town_names (mVar 0) mNil)) (mCons (frz (mFld [1] "links" (mVar 0))) (mCons (mVar 1) mNil)))))))
variable {P : Program} {w : World} {K : PySem.W.Frag} {mg : Str → Option Value} {base : Heap}
theorem ok_Town_group (T : Txt K mg) : FnOk P w K mg base CX0 3 T.a_Town_group T.d_Town_group ["self", "name"] (spP T.W m_Town_group) := by
  have nd := sc_Town_group.nd
  refine T.F_Town_group.ok sc_Town_group (fun vs H Q E h => spP0_len (E := E) h) (fun cdv A outer s H vs Q E hr h => ?_)
  have hu := hu_of hr
  have hu65 := hu65_of hr
  exact ⟨_, (pss_cons (ps_if (pt_cmpR (Kx.op_notIn_own (ok_Town_contains T) (hr.mono (by decide)) T.m_Town_contains T.b_Town_contains pass0) (pv 1) (pv 0) (by rfl)) (pss_one (ps_never)) pss_nil)
      (pss_one (ps_ret (pe_call (ok_joined_names T) (hr.mono (by decide)) rfl T.g_joined_names T.k_joined_names T.b_joined_names .nil pass0 (pa_cons (pe_meth0 (pv 0) T.cl_Town T.m_Town_names (ok_Town_names T) (hr.mono (by decide)) T.b_Town_names .nil pass0) (pa_cons (pe_fldK (K := K) rfl (pv 0) rfl) (pa_cons (pv 1) pa_nil))))))), fnP0 rfl (ds_seq (ds_if (dt_test (dv_inOwn (c := 1) (neg := true) rfl (fun b => by cases b <;> rfl) dv_var dv_var)) ds_neverG ds_next)
      (ds_ret (de_call (da_cons (DE.dv (de_meth (c := 1) rfl dv_var da_nil)) (da_cons (DE.dv (de_fld (cs := [1]) (List.forall_mem_cons.mpr ⟨⟨T.cl_Town, T.n_Town_links⟩, List.forall_mem_nil _⟩) dv_var)) (da_cons dv_var da_nil)))))) h⟩
end
end Toy
namespace Toy
open PySem PySem.Spec PyProof.Rows L2 Kx
section
open Dm
def m_events_of : Dm.Fn := mFn0 1 5 ((sSeq (sSet 1 (mMeth 1 "names" m_Town_names (mVar 0) mNil))
    (sSeq (sSet 2 (mLc (itSeq (mVar 1)) [3] (tgN 3) mYes (mTup (mCons (mC (.str "cut")) (mCons (mVar 3) mNil)))))
    (sSeq (sExt 2 (frz (mLc (itSeq (mVar 1)) [3] (tgN 3) mYes (mTup (mCons (mC (.str "line")) (mCons (mVar 3) mNil))))))
    (sSeq (sExt 2 (frz (mLc2 (itSeq (mVar 1)) [3, 4] [4] (tgN 3) mYes (itW [.int 1, .int 2]) (tgN 4) mYes (mTup (mCons (mC (.str "pay")) (mCons (mVar 3) (mCons (mVar 4) mNil)))))))
    (sSeq (sExt 2 (frz (mLc (itW [.int 1, .int 2]) [4] (tgN 4) mYes (mTup (mCons (mC (.str "top")) (mCons (mVar 4) mNil))))))
    (sSeq (sApp 2 (mTup (mCons (mC (.str "lose")) mNil)))
    (sSeq (sExt 2 (frz (mLc (itSeq (mVar 1)) [3] (tgN 3) mYes (mTup (mCons (mC (.str "again")) (mCons (mVar 3) mNil))))))
    (sRet (mMove 2))))))))))
variable {P : Program} {w : World} {K : PySem.W.Frag} {mg : Str → Option Value} {base : Heap}
theorem ok_events_of (T : Txt K mg) : FnOk P w K mg base CX0 2 T.a_events_of T.d_events_of ["town"] (spP T.W m_events_of) := by
  have nd := sc_events_of.nd
  refine T.F_events_of.ok sc_events_of (fun vs H Q E h => spP0_len (E := E) h) (fun cdv A outer s H vs Q E hr h => ?_)
  have hu := hu_of hr
  have hu65 := hu65_of hr
  exact ⟨_, (pss_cons (ps_set (i := 1) nd rfl (by first | exact Or.inl rfl | exact Or.inr rfl) (pe_meth0 (pv 0) T.cl_Town T.m_Town_names (ok_Town_names T) (hr.mono (by decide)) T.b_Town_names .nil pass0))
      (pss_cons (ps_setLc (i := 2) (own := [("name", 3)]) rfl nd rfl rfl (sw_true rfl rfl rfl (by decide +kernel)) (pi_seq (K := K) rfl (pv 1)) (blkOk_by (N := ["town", "names", "events", "name", "units"]) (sc := defScope s_events_of) (by decide +kernel)) (fun _ _ _ _ _ => (pg_name (i := 3) nd rfl (by first | exact Or.inl rfl | exact Or.inr rfl))) (fun _ _ _ _ _ => pts_nil) (fun _ _ _ _ _ => (pe_tup (pa_cons (pe_str) (pa_cons (pv 3) pa_nil)))))
      (pss_cons (ps_expr (pe_bm PySem.F.plainAttrs_list PySem.F.slot_list_extend PySem.F.type_list_extend mt_extend (pv 2) (pa_cons (pe_lc (own := [("name", 3)]) rfl nd (pi_seq (K := K) rfl (pv 1)) (blkOk_by (N := ["town", "names", "events", "name", "units"]) (sc := defScope s_events_of) (by decide +kernel)) (fun _ _ _ _ _ => (pg_name (i := 3) nd rfl (by first | exact Or.inl rfl | exact Or.inr rfl))) (fun _ _ _ _ _ => pts_nil) (fun _ _ _ _ _ => (pe_tup (pa_cons (pe_str) (pa_cons (pv 3) pa_nil))))) pa_nil)))
      (pss_cons (ps_expr (pe_bm PySem.F.plainAttrs_list PySem.F.slot_list_extend PySem.F.type_list_extend mt_extend (pv 2) (pa_cons (pe_lc2 (own := [("name", 3), ("units", 4)]) (vs1 := [4]) rfl nd (pi_seq (K := K) rfl (pv 1)) (blkOk_by (N := ["town", "names", "events", "name", "units"]) (sc := defScope s_events_of) (by decide +kernel)) (by decide) (fun _ _ _ _ _ => (pg_name (i := 3) nd rfl (by first | exact Or.inl rfl | exact Or.inr rfl))) (fun _ _ _ _ _ => pts_nil) (fun _ _ _ _ _ => (Kx.pi_tupK (K := K) rfl (pe_glob (v := .ref T.w_UNITS) rfl T.g_UNITS rfl))) (fun _ _ _ _ _ => (pg_name (i := 4) nd rfl (by first | exact Or.inl rfl | exact Or.inr rfl))) (fun _ _ _ _ _ => pts_nil) (fun _ _ _ _ _ => (pe_tup (pa_cons (pe_str) (pa_cons (pv 3) (pa_cons (pv 4) pa_nil)))))) pa_nil)))
      (pss_cons (ps_expr (pe_bm PySem.F.plainAttrs_list PySem.F.slot_list_extend PySem.F.type_list_extend mt_extend (pv 2) (pa_cons (pe_lc (own := [("units", 4)]) rfl nd (Kx.pi_tupK (K := K) rfl (pe_glob (v := .ref T.w_UNITS) rfl T.g_UNITS rfl)) (blkOk_by (N := ["town", "names", "events", "name", "units"]) (sc := defScope s_events_of) (by decide +kernel)) (fun _ _ _ _ _ => (pg_name (i := 4) nd rfl (by first | exact Or.inl rfl | exact Or.inr rfl))) (fun _ _ _ _ _ => pts_nil) (fun _ _ _ _ _ => (pe_tup (pa_cons (pe_str) (pa_cons (pv 4) pa_nil))))) pa_nil)))
      (pss_cons (ps_expr (pe_bm PySem.F.plainAttrs_list PySem.F.slot_list_append PySem.F.type_list_append mt_append (pv 2) (pa_cons (pe_tup (pa_cons (pe_str) pa_nil)) pa_nil)))
      (pss_cons (ps_expr (pe_bm PySem.F.plainAttrs_list PySem.F.slot_list_extend PySem.F.type_list_extend mt_extend (pv 2) (pa_cons (pe_lc (own := [("name", 3)]) rfl nd (pi_seq (K := K) rfl (pv 1)) (blkOk_by (N := ["town", "names", "events", "name", "units"]) (sc := defScope s_events_of) (by decide +kernel)) (fun _ _ _ _ _ => (pg_name (i := 3) nd rfl (by first | exact Or.inl rfl | exact Or.inr rfl))) (fun _ _ _ _ _ => pts_nil) (fun _ _ _ _ _ => (pe_tup (pa_cons (pe_str) (pa_cons (pv 3) pa_nil))))) pa_nil)))
      (pss_one (ps_ret (pv 2)))))))))), fnP0 rfl (ds_seq (ds_set (i := 1) (de_meth (c := 1) rfl dv_var da_nil))
      (ds_seq (ds_set (i := 2) (de_lc (vs := [3]) (di_seq dv_var) dg_nameG dt_yesG (dv_tup (da_cons dv_str (da_cons dv_var da_nil))) (by decide)))
      (ds_seq (ds_ext (i := 2) (DE.dv (de_lc (vs := [3]) (di_seq dv_var) dg_nameG dt_yesG (dv_tup (da_cons dv_str (da_cons dv_var da_nil))) (by decide))))
      (ds_seq (ds_ext (i := 2) (DE.dv (de_lc2 (vs := [3, 4]) (vs1 := [4]) (di_seq dv_var) dg_nameG dt_yesG (di_WG (fun H => T.q_UNITS.sq) rfl) dg_nameG dt_yesG (dv_tup (da_cons dv_str (da_cons dv_var (da_cons dv_var da_nil)))) (by decide) (by decide) (by decide))))
      (ds_seq (ds_ext (i := 2) (DE.dv (de_lc (vs := [4]) (di_WG (fun H => T.q_UNITS.sq) rfl) dg_nameG dt_yesG (dv_tup (da_cons dv_str (da_cons dv_var da_nil))) (by decide))))
      (ds_seq (ds_app (i := 2) (dv_tup (da_cons dv_str da_nil)))
      (ds_seq (ds_ext (i := 2) (DE.dv (de_lc (vs := [3]) (di_seq dv_var) dg_nameG dt_yesG (dv_tup (da_cons dv_str (da_cons dv_var da_nil))) (by decide))))
      (ds_ret de_move)))))))) h⟩
end
end Toy
namespace Toy
open PySem PySem.Spec PyProof.Rows L2 Kx
section
open Dm
def m_most_remembered : Dm.Fn := mFn0 1 1 ((sRet (toC (mIf (mTest (frz (mOp gEq (frz (mCB gLen (mCons (mVar 0) mNil))) (mC (.int 2))))) (frz (mOp gIx (mVar 0) (mC (.int 1)))) (mC (.int 0))))))
variable {P : Program} {w : World} {K : PySem.W.Frag} {mg : Str → Option Value} {base : Heap}
theorem ok_most_remembered (T : Txt K mg) : FnOk P w K mg base CX0 1 T.a_most_remembered T.d_most_remembered ["memory"] (spP T.W m_most_remembered) := by
  have nd := sc_most_remembered.nd
  refine T.F_most_remembered.ok sc_most_remembered (fun vs H Q E h => spP0_len (E := E) h) (fun cdv A outer s H vs Q E hr h => ?_)
  have hu := hu_of hr
  have hu65 := hu65_of hr
  exact ⟨_, (pss_one (ps_ret (pe_ifExp (pt_cmpR (op_eqK (K := K) rfl hr.units) (pe_callB (call_lenA (K := K) rfl) (by rfl) T.no_len (by decide +kernel) (pa_cons (pv 0) pa_nil)) (pe_int) (nomark _)) (pe_ix (ix_D (K := K) rfl hu) (pv 0) (pe_int) (fun _ _ => rfl)) (pe_int)))), fnP0 rfl (ds_ret (DV.de (dv_if (dt_test (DE.dv (de_op d2_eq (DE.dv (de_cb db_len (da_cons dv_var da_nil))) dv_int))) (DE.dv (de_op d2_ix dv_var dv_int)) dv_int))) h⟩
end
end Toy
namespace Toy
open PySem PySem.Spec PyProof.Rows L2 Kx
section
open Dm
def m_Layout_init : Dm.FnI := mFnI0 2 9 ((sSeq (sSet 2 (mMeth 1 "names" m_Town_names (mVar 1) mNil))
    (sSeq (sSet 3 (mLc (itSeq (mVar 2)) [4] (tgN 4) mYes (frz (mIxOwn 1 m_Town_getitem (mVar 1) (mVar 4)))))
    (sSeq (sFldPut [2] 0 "indexes" (frz (mDc (itEnum (mCons (mVar 2) mNil)) [5, 4] (unD 2 (tgCons (tgN 5) (tgCons (tgN 4) tgNil))) mYes (mVar 4) (mVar 5))))
    (sSeq (sFldPut [2] 0 "limits" (frz (mCB gTuple (mCons (frz (mLc (itSeq (mVar 3)) [6] (tgN 6) mYes (frz (mFld [0] "limit" (mVar 6))))) mNil))))
    (sSeq (sFldPut [2] 0 "heeding" (frz (mCB gTuple (mCons (frz (mLc (itSeq (mVar 3)) [6] (tgN 6) mYes (frz (mFld [0] "heeds" (mVar 6))))) mNil))))
    (sSeq (sFldPut [2] 0 "groups" (frz (mCB gTuple (mCons (frz (mLc (itSeq (mVar 2)) [4] (tgN 4) mYes (frz (mCB gTuple (mCons (frz (mLc (itSeq (frz (mMeth 1 "group" m_Town_group (mVar 1) (mCons (mVar 4) mNil)))) [7] (tgN 7) mYes (frz (mOp gIx (ownFld [2] 0 "indexes") (mVar 7))))) mNil))))) mNil))))
    (sSeq (sFldPut [2] 0 "kind" (frz (mOp gIx (frz (mFld [1] "memory" (mVar 1))) (mC (.int 0)))))
    (sSeq (sFldPut [2] 0 "top_remembered" (frz (mCall m_most_remembered (mCons (frz (mFld [1] "memory" (mVar 1))) mNil))))
    (sSeq (sFldPut [2] 0 "numbered" (frz (mFld [2, 1] "numbered" (mVar 1))))
    (sFldPut [2] 0 "plain_events" (frz (mLc (itSeq (frz (mCall m_events_of (mCons (mVar 1) mNil)))) [8] (tgN 8) (mTest (frz (mOp gNe (frz (mOp gIx (mVar 8) (mC (.int 0)))) (mC (.str "again"))))) (mVar 8))))))))))))))
variable {P : Program} {w : World} {K : PySem.W.Frag} {mg : Str → Option Value} {base : Heap}
theorem ok_Layout_init (T : Txt K mg) : FnOk P w K mg base CX0 4 T.a_Layout_init T.d_Layout_init ["self", "town"] (spI T.W m_Layout_init) := by
  have nd := sc_Layout_init.nd
  refine T.F_Layout_init.ok sc_Layout_init (fun vs H Q E h => spI0_len (E := E) h) (fun cdv A outer s H vs Q E hr h => ?_)
  have hu := hu_of hr
  have hu65 := hu65_of hr
  exact ⟨_, (pss_cons (ps_set (i := 2) nd rfl (by first | exact Or.inl rfl | exact Or.inr rfl) (pe_meth0 (pv 1) T.cl_Town T.m_Town_names (ok_Town_names T) (hr.mono (by decide)) T.b_Town_names .nil pass0))
      (pss_cons (ps_setLc (i := 3) (own := [("name", 4)]) rfl nd rfl rfl (sw_true rfl rfl rfl (by decide +kernel)) (pi_seq (K := K) rfl (pv 2)) (blkOk_by (N := ["self", "town", "names", "tills", "name", "index", "till", "one", "event"]) (sc := defScope s_Layout_init) (by decide +kernel)) (fun _ _ _ _ _ => (pg_name (i := 4) nd rfl (by first | exact Or.inl rfl | exact Or.inr rfl))) (fun _ _ _ _ _ => pts_nil) (fun _ _ _ _ _ => (pe_ixOwn (ok_Town_getitem T) (hr.mono (by decide)) T.m_Town_getitem T.fi_Town_getitem T.b_Town_getitem pass0 (pv 1) (pv 4) (fun _ _ => by with_unfolding_all rfl))))
      (pss_cons (ps_fld (pv 0) (pe_dc (own := [("index", 5), ("name", 4)]) rfl nd (PI_or (pi_enum (by rfl) T.no_enumerate (pa_cons (pv 2) pa_nil)) (Kx.pi_enumT (by rfl) T.no_enumerate (pa_cons (pv 2) pa_nil))) (blkOk_by (N := ["self", "town", "names", "tills", "name", "index", "till", "one", "event"]) (sc := defScope s_Layout_init) (by decide +kernel)) (fun _ _ _ _ _ => (pg_un (K := K) rfl 2 rfl (pgs_cons (pg_name (i := 5) nd rfl (by first | exact Or.inl rfl | exact Or.inr rfl)) (pgs_cons (pg_name (i := 4) nd rfl (by first | exact Or.inl rfl | exact Or.inr rfl)) pgs_nil)))) (fun _ _ _ _ _ => pts_nil) (fun _ _ _ _ _ => (pv 4)) (fun _ _ _ _ _ => (pv 5))) rfl)
      (pss_cons (ps_fld (pv 0) (pe_callTy (call_tupA (K := K) rfl) (by rfl) T.no_tuple (by decide +kernel) (pa_cons (pe_lc (own := [("till", 6)]) rfl nd (pi_seq (K := K) rfl (pv 3)) (blkOk_by (N := ["self", "town", "names", "tills", "name", "index", "till", "one", "event"]) (sc := defScope s_Layout_init) (by decide +kernel)) (fun _ _ _ _ _ => (pg_name (i := 6) nd rfl (by first | exact Or.inl rfl | exact Or.inr rfl))) (fun _ _ _ _ _ => pts_nil) (fun _ _ _ _ _ => (pe_fldK (K := K) rfl (pv 6) rfl))) pa_nil)) rfl)
      (pss_cons (ps_fld (pv 0) (pe_callTy (call_tupA (K := K) rfl) (by rfl) T.no_tuple (by decide +kernel) (pa_cons (pe_lc (own := [("till", 6)]) rfl nd (pi_seq (K := K) rfl (pv 3)) (blkOk_by (N := ["self", "town", "names", "tills", "name", "index", "till", "one", "event"]) (sc := defScope s_Layout_init) (by decide +kernel)) (fun _ _ _ _ _ => (pg_name (i := 6) nd rfl (by first | exact Or.inl rfl | exact Or.inr rfl))) (fun _ _ _ _ _ => pts_nil) (fun _ _ _ _ _ => (pe_fldK (K := K) rfl (pv 6) rfl))) pa_nil)) rfl)
      (pss_cons (ps_fld (pv 0) (pe_callTy (call_tupA (K := K) rfl) (by rfl) T.no_tuple (by decide +kernel) (pa_cons (pe_lc (own := [("name", 4)]) rfl nd (pi_seq (K := K) rfl (pv 2)) (blkOk_by (N := ["self", "town", "names", "tills", "name", "index", "till", "one", "event"]) (sc := defScope s_Layout_init) (by decide +kernel)) (fun _ _ _ _ _ => (pg_name (i := 4) nd rfl (by first | exact Or.inl rfl | exact Or.inr rfl))) (fun _ _ _ _ _ => pts_nil) (fun _ _ _ _ _ => (pe_callTy (call_tupA (K := K) rfl) (by rfl) T.no_tuple (by decide +kernel) (pa_cons (pe_lc (own := [("one", 7)]) rfl nd (pi_seq (K := K) rfl (pe_meth (pv 1) T.cl_Town T.m_Town_group (ok_Town_group T) (hr.mono (by decide)) T.b_Town_group .nil pass0 (pa_cons (pv 4) pa_nil))) (blkOk_by (N := ["self", "town", "names", "tills", "name", "index", "till", "one", "event"]) (sc := relS _ (defScope s_Layout_init)) (by decide +kernel)) (fun _ _ _ _ _ => (pg_name (i := 7) nd rfl (by first | exact Or.inl rfl | exact Or.inr rfl))) (fun _ _ _ _ _ => pts_nil) (fun _ _ _ _ _ => (pe_ix (ix_D (K := K) rfl hu) (pe_fldK (K := K) rfl (pv 0) rfl) (pv 7) (fun _ _ => rfl)))) pa_nil)))) pa_nil)) rfl)
      (pss_cons (ps_fld (pv 0) (pe_ix (ix_D (K := K) rfl hu) (pe_fldK (K := K) rfl (pv 1) rfl) (pe_int) (fun _ _ => rfl)) rfl)
      (pss_cons (ps_fld (pv 0) (pe_call (ok_most_remembered T) (hr.mono (by decide)) rfl T.g_most_remembered T.k_most_remembered T.b_most_remembered .nil pass0 (pa_cons (pe_fldK (K := K) rfl (pv 1) rfl) pa_nil)) rfl)
      (pss_cons (ps_fld (pv 0) (pe_fldK (K := K) rfl (pv 1) rfl) rfl)
      (pss_one (ps_fld (pv 0) (pe_lc (own := [("event", 8)]) rfl nd (pi_seq (K := K) rfl (pe_call (ok_events_of T) (hr.mono (by decide)) rfl T.g_events_of T.k_events_of T.b_events_of .nil pass0 (pa_cons (pv 1) pa_nil))) (blkOk_by (N := ["self", "town", "names", "tills", "name", "index", "till", "one", "event"]) (sc := defScope s_Layout_init) (by decide +kernel)) (fun _ _ _ _ _ => (pg_name (i := 8) nd rfl (by first | exact Or.inl rfl | exact Or.inr rfl))) (fun _ _ _ _ _ => pts_one (pt_cmpR (op_neK (K := K) rfl hr.units) (pe_ix (ix_D (K := K) rfl hu) (pv 8) (pe_int) (fun _ _ => rfl)) (pe_str) (nomark _))) (fun _ _ _ _ _ => (pv 8))) rfl))))))))))), fnI0 rfl (ds_seq (ds_set (i := 2) (de_meth (c := 1) rfl dv_var da_nil))
      (ds_seq (ds_set (i := 3) (de_lc (vs := [4]) (di_seq dv_var) dg_nameG dt_yesG (DE.dv (de_ixOwn (c := 1) rfl dv_var dv_var)) (by decide)))
      (ds_seq (ds_fldput (cs := [2]) (i := 0) (List.forall_mem_cons.mpr ⟨⟨T.cl_Layout, T.n_Layout_indexes⟩, List.forall_mem_nil _⟩) (DE.dv (de_dc (vs := [5, 4]) (di_enum (da_cons dv_var da_nil)) (dg_un (dgs_consG dg_nameG (dgs_consG dg_nameG dgs_nilG))) dt_yesG dv_var dv_var (by decide))))
      (ds_seq (ds_fldput (cs := [2]) (i := 0) (List.forall_mem_cons.mpr ⟨⟨T.cl_Layout, T.n_Layout_limits⟩, List.forall_mem_nil _⟩) (DE.dv (de_cb db_tuple (da_cons (DE.dv (de_lc (vs := [6]) (di_seq dv_var) dg_nameG dt_yesG (DE.dv (de_fld (cs := [0]) (List.forall_mem_cons.mpr ⟨⟨T.cl_Till, T.n_Till_limit⟩, List.forall_mem_nil _⟩) dv_var)) (by decide))) da_nil))))
      (ds_seq (ds_fldput (cs := [2]) (i := 0) (List.forall_mem_cons.mpr ⟨⟨T.cl_Layout, T.n_Layout_heeding⟩, List.forall_mem_nil _⟩) (DE.dv (de_cb db_tuple (da_cons (DE.dv (de_lc (vs := [6]) (di_seq dv_var) dg_nameG dt_yesG (DE.dv (de_fld (cs := [0]) (List.forall_mem_cons.mpr ⟨⟨T.cl_Till, T.n_Till_heeds⟩, List.forall_mem_nil _⟩) dv_var)) (by decide))) da_nil))))
      (ds_seq (ds_fldput (cs := [2]) (i := 0) (List.forall_mem_cons.mpr ⟨⟨T.cl_Layout, T.n_Layout_groups⟩, List.forall_mem_nil _⟩) (DE.dv (de_cb db_tuple (da_cons (DE.dv (de_lc (vs := [4]) (di_seq dv_var) dg_nameG dt_yesG (DE.dv (de_cb db_tuple (da_cons (DE.dv (de_lc (vs := [7]) (di_seq (DE.dv (de_meth (c := 1) rfl dv_var (da_cons dv_var da_nil)))) dg_nameG dt_yesG (DE.dv (de_op d2_ix (dv_fldO (cs := [2]) (List.forall_mem_cons.mpr ⟨⟨T.cl_Layout, T.n_Layout_indexes⟩, List.forall_mem_nil _⟩)) dv_var)) (by decide))) da_nil))) (by decide))) da_nil))))
      (ds_seq (ds_fldput (cs := [2]) (i := 0) (List.forall_mem_cons.mpr ⟨⟨T.cl_Layout, T.n_Layout_kind⟩, List.forall_mem_nil _⟩) (DE.dv (de_op d2_ix (DE.dv (de_fld (cs := [1]) (List.forall_mem_cons.mpr ⟨⟨T.cl_Town, T.n_Town_memory⟩, List.forall_mem_nil _⟩) dv_var)) dv_int)))
      (ds_seq (ds_fldput (cs := [2]) (i := 0) (List.forall_mem_cons.mpr ⟨⟨T.cl_Layout, T.n_Layout_top_remembered⟩, List.forall_mem_nil _⟩) (DE.dv (de_call (da_cons (DE.dv (de_fld (cs := [1]) (List.forall_mem_cons.mpr ⟨⟨T.cl_Town, T.n_Town_memory⟩, List.forall_mem_nil _⟩) dv_var)) da_nil))))
      (ds_seq (ds_fldput (cs := [2]) (i := 0) (List.forall_mem_cons.mpr ⟨⟨T.cl_Layout, T.n_Layout_numbered⟩, List.forall_mem_nil _⟩) (DE.dv (de_fld (cs := [2, 1]) (List.forall_mem_cons.mpr ⟨⟨T.cl_Layout, T.n_Layout_numbered⟩, List.forall_mem_cons.mpr ⟨⟨T.cl_Town, T.n_Town_numbered⟩, List.forall_mem_nil _⟩⟩) dv_var)))
      (ds_fldput (cs := [2]) (i := 0) (List.forall_mem_cons.mpr ⟨⟨T.cl_Layout, T.n_Layout_plain_events⟩, List.forall_mem_nil _⟩) (DE.dv (de_lc (vs := [8]) (di_seq (DE.dv (de_call (da_cons dv_var da_nil)))) dg_nameG (dt_test (DE.dv (de_op d2_ne (DE.dv (de_op d2_ix dv_var dv_int)) dv_str))) dv_var (by decide))))))))))))) h⟩
end
end Toy
namespace Toy
open PySem PySem.Spec PyProof.Rows L2 Kx
section
open Dm
def m_can_follow : Dm.Fn := mFn0 3 7 ((sSeq (sPar3 3 4 5 (mCons (frz (mOp gIx (mVar 1) (mC (.int 0)))) (mCons (frz (mOp gIx (mVar 1) (mC (.int 5)))) (mCons (frz (mOp gIx (mVar 1) (mC (.int 6)))) mNil))))
    (sSeq (sSet 6 (mOp gIx (mVar 2) (mC (.int 0))))
    (sSeq (sIf (mTest (frz (mOp gEq (mVar 6) (mC (.str "cut"))))) (sRet (mOp gIx (mVar 3) (frz (mOp gIx (frz (mFld [2] "indexes" (mVar 0))) (frz (mOp gIx (mVar 2) (mC (.int 1)))))))) sNx)
    (sSeq (sIf (mTest (frz (mOp gEq (mVar 6) (mC (.str "line"))))) (sRet (toC (mNotV (frz (mOp gIx (mVar 3) (frz (mOp gIx (frz (mFld [2] "indexes" (mVar 0))) (frz (mOp gIx (mVar 2) (mC (.int 1))))))))))) sNx)
    (sSeq (sIf (mTest (frz (mOp gEq (mVar 6) (mC (.str "top"))))) (sRet (mOp gLe (frz (mOp gIx (mVar 2) (mC (.int 1)))) (mVar 5))) sNx)
    (sSeq (sIf (mTest (frz (mOp gEq (mVar 6) (mC (.str "lose"))))) (sRet (toC (mNotV (mVar 4)))) sNx)
    (sRet (mOp gEq (mVar 6) (mC (.str "pay")))))))))))
variable {P : Program} {w : World} {K : PySem.W.Frag} {mg : Str → Option Value} {base : Heap}
theorem ok_can_follow (T : Txt K mg) : FnOk P w K mg base CX0 1 T.a_can_follow T.d_can_follow ["layout", "state", "event"] (spP T.W m_can_follow) := by
  have nd := sc_can_follow.nd
  refine T.F_can_follow.ok sc_can_follow (fun vs H Q E h => spP0_len (E := E) h) (fun cdv A outer s H vs Q E hr h => ?_)
  have hu := hu_of hr
  have hu65 := hu65_of hr
  exact ⟨_, (pss_cons (ps_par3 (i := 3) (j := 4) (l := 5) (by rfl) nd rfl rfl rfl (by decide) (by decide) (by decide) rfl rfl rfl (pa_cons (pe_ix (ix_D (K := K) rfl hu) (pv 1) (pe_int) (fun _ _ => rfl)) (pa_cons (pe_ix (ix_D (K := K) rfl hu) (pv 1) (pe_int) (fun _ _ => rfl)) (pa_cons (pe_ix (ix_D (K := K) rfl hu) (pv 1) (pe_int) (fun _ _ => rfl)) pa_nil))) (by rfl))
      (pss_cons (ps_set (i := 6) nd rfl (by first | exact Or.inl rfl | exact Or.inr rfl) (pe_ix (ix_D (K := K) rfl hu) (pv 2) (pe_int) (fun _ _ => rfl)))
      (pss_cons (ps_if (pt_cmpR (op_eqK (K := K) rfl hr.units) (pv 6) (pe_str) (nomark _)) (pss_one (ps_ret (pe_ix (ix_D (K := K) rfl hu) (pv 3) (pe_ix (ix_D (K := K) rfl hu) (pe_fldK (K := K) rfl (pv 0) rfl) (pe_ix (ix_D (K := K) rfl hu) (pv 2) (pe_int) (fun _ _ => rfl)) (fun _ _ => rfl)) (fun _ _ => rfl)))) pss_nil)
      (pss_cons (ps_if (pt_cmpR (op_eqK (K := K) rfl hr.units) (pv 6) (pe_str) (nomark _)) (pss_one (ps_ret (pe_not (pe_ix (ix_D (K := K) rfl hu) (pv 3) (pe_ix (ix_D (K := K) rfl hu) (pe_fldK (K := K) rfl (pv 0) rfl) (pe_ix (ix_D (K := K) rfl hu) (pv 2) (pe_int) (fun _ _ => rfl)) (fun _ _ => rfl)) (fun _ _ => rfl))))) pss_nil)
      (pss_cons (ps_if (pt_cmpR (op_eqK (K := K) rfl hr.units) (pv 6) (pe_str) (nomark _)) (pss_one (ps_ret (pe_cmpR op_leD (pe_ix (ix_D (K := K) rfl hu) (pv 2) (pe_int) (fun _ _ => rfl)) (pv 5) (nomark _)))) pss_nil)
      (pss_cons (ps_if (pt_cmpR (op_eqK (K := K) rfl hr.units) (pv 6) (pe_str) (nomark _)) (pss_one (ps_ret (pe_not (pv 4)))) pss_nil)
      (pss_one (ps_ret (pe_cmpR (op_eqK (K := K) rfl hr.units) (pv 6) (pe_str) (nomark _)))))))))), fnP0 rfl (ds_seq (ds_par3 (da_cons (DE.dv (de_op d2_ix dv_var dv_int)) (da_cons (DE.dv (de_op d2_ix dv_var dv_int)) (da_cons (DE.dv (de_op d2_ix dv_var dv_int)) da_nil))))
      (ds_seq (ds_set (i := 6) (de_op d2_ix dv_var dv_int))
      (ds_seq (ds_if (dt_test (DE.dv (de_op d2_eq dv_var dv_str))) (ds_ret (de_op d2_ix dv_var (DE.dv (de_op d2_ix (DE.dv (de_fld (cs := [2]) (List.forall_mem_cons.mpr ⟨⟨T.cl_Layout, T.n_Layout_indexes⟩, List.forall_mem_nil _⟩) dv_var)) (DE.dv (de_op d2_ix dv_var dv_int)))))) ds_next)
      (ds_seq (ds_if (dt_test (DE.dv (de_op d2_eq dv_var dv_str))) (ds_ret (DV.de (dv_notV (DE.dv (de_op d2_ix dv_var (DE.dv (de_op d2_ix (DE.dv (de_fld (cs := [2]) (List.forall_mem_cons.mpr ⟨⟨T.cl_Layout, T.n_Layout_indexes⟩, List.forall_mem_nil _⟩) dv_var)) (DE.dv (de_op d2_ix dv_var dv_int))))))))) ds_next)
      (ds_seq (ds_if (dt_test (DE.dv (de_op d2_eq dv_var dv_str))) (ds_ret (de_op d2_le (DE.dv (de_op d2_ix dv_var dv_int)) dv_var)) ds_next)
      (ds_seq (ds_if (dt_test (DE.dv (de_op d2_eq dv_var dv_str))) (ds_ret (DV.de (dv_notV dv_var))) ds_next)
      (ds_ret (de_op d2_eq dv_var dv_str)))))))) h⟩
end
end Toy
namespace Toy
open PySem PySem.Spec PyProof.Rows L2 Kx
section
open Dm
def m_is_stopped : Dm.Fn := mFn0 2 2 ((sRet (toC (mOrV (mVar 1) (frz (mOp gLe (mVar 0) (mC (.int 0))))))))
variable {P : Program} {w : World} {K : PySem.W.Frag} {mg : Str → Option Value} {base : Heap}
theorem ok_is_stopped (T : Txt K mg) : FnOk P w K mg base CX0 1 T.a_is_stopped T.d_is_stopped ["left", "lost"] (spP T.W m_is_stopped) := by
  have nd := sc_is_stopped.nd
  refine T.F_is_stopped.ok sc_is_stopped (fun vs H Q E h => spP0_len (E := E) h) (fun cdv A outer s H vs Q E hr h => ?_)
  have hu := hu_of hr
  have hu65 := hu65_of hr
  exact ⟨_, (pss_one (ps_ret (pe_or (pv 1) (pe_one (pe_cmpR op_leD (pv 0) (pe_int) (nomark _)))))), fnP0 rfl (ds_ret (DV.de (dv_orV dv_var (DE.dv (de_op d2_le dv_var dv_int))))) h⟩
end
end Toy
namespace Toy
open PySem PySem.Spec PyProof.Rows L2 Kx
section
open Dm
def m_with_group : Dm.Fn := mFn0 3 5 ((sRet (mCB gTuple (mCons (frz (mLc (itEnum (mCons (mVar 0) mNil)) [3, 4] (unD 2 (tgCons (tgN 3) (tgCons (tgN 4) tgNil))) mYes (mIf (mTest (frz (mOp gIn (mVar 3) (mVar 1)))) (mVar 2) (mVar 4)))) mNil))))
variable {P : Program} {w : World} {K : PySem.W.Frag} {mg : Str → Option Value} {base : Heap}
theorem ok_with_group (T : Txt K mg) : FnOk P w K mg base CX0 1 T.a_with_group T.d_with_group ["row", "group", "value"] (spP T.W m_with_group) := by
  have nd := sc_with_group.nd
  refine T.F_with_group.ok sc_with_group (fun vs H Q E h => spP0_len (E := E) h) (fun cdv A outer s H vs Q E hr h => ?_)
  have hu := hu_of hr
  have hu65 := hu65_of hr
  exact ⟨_, (pss_one (ps_ret (pe_callTy (call_tupA (K := K) rfl) (by rfl) T.no_tuple (by decide +kernel) (pa_cons (pe_lc (own := [("index", 3), ("old", 4)]) rfl nd (PI_or (pi_enum (by rfl) T.no_enumerate (pa_cons (pv 0) pa_nil)) (Kx.pi_enumT (by rfl) T.no_enumerate (pa_cons (pv 0) pa_nil))) (blkOk_by (N := ["row", "group", "value", "index", "old"]) (sc := defScope s_with_group) (by decide +kernel)) (fun _ _ _ _ _ => (pg_un (K := K) rfl 2 rfl (pgs_cons (pg_name (i := 3) nd rfl (by first | exact Or.inl rfl | exact Or.inr rfl)) (pgs_cons (pg_name (i := 4) nd rfl (by first | exact Or.inl rfl | exact Or.inr rfl)) pgs_nil)))) (fun _ _ _ _ _ => pts_nil) (fun _ _ _ _ _ => (pe_ifExp (pt_cmpR (op_inK (K := K) rfl hu65) (pv 3) (pv 1) (by rfl)) (pv 2) (pv 4)))) pa_nil)))), fnP0 rfl (ds_ret (de_cb db_tuple (da_cons (DE.dv (de_lc (vs := [3, 4]) (di_enum (da_cons dv_var da_nil)) (dg_un (dgs_consG dg_nameG (dgs_consG dg_nameG dgs_nilG))) dt_yesG (dv_if (dt_test (DE.dv (de_op d2_in dv_var dv_var))) dv_var dv_var) (by decide))) da_nil))) h⟩
end
end Toy
namespace Toy
open PySem PySem.Spec PyProof.Rows L2 Kx
section
open Dm
def m_with_item : Dm.Fn := mFn0 3 3 ((sRet (mOp gAdd (frz (mOp gAdd (frz (mSl (mVar 0) mNoPart (mPart (mVar 1)))) (mTup (mCons (mVar 2) mNil)))) (frz (mSl (mVar 0) (mPart (frz (mOp gAdd (mVar 1) (mC (.int 1))))) mNoPart)))))
variable {P : Program} {w : World} {K : PySem.W.Frag} {mg : Str → Option Value} {base : Heap}
theorem ok_with_item (T : Txt K mg) : FnOk P w K mg base CX0 1 T.a_with_item T.d_with_item ["row", "at", "value"] (spP T.W m_with_item) := by
  have nd := sc_with_item.nd
  refine T.F_with_item.ok sc_with_item (fun vs H Q E h => spP0_len (E := E) h) (fun cdv A outer s H vs Q E hr h => ?_)
  have hu := hu_of hr
  have hu65 := hu65_of hr
  exact ⟨_, (pss_one (ps_ret (pe_op (op_addD (K := K) rfl) (pe_op (op_addD (K := K) rfl) (pe_slice (sl_D (K := K) rfl) (pv 0) po_none (po_some (pv 1))) (pe_tup (pa_cons (pv 2) pa_nil))) (pe_slice (sl_D (K := K) rfl) (pv 0) (po_some (pe_op (op_addD (K := K) rfl) (pv 1) (pe_int))) po_none)))), fnP0 rfl (ds_ret (de_op d2_add (DE.dv (de_op d2_add (DE.dv (de_sl dv_var do_none (do_some dv_var))) (dv_tup (da_cons dv_var da_nil)))) (DE.dv (de_sl dv_var (do_some (DE.dv (de_op d2_add dv_var dv_int))) do_none)))) h⟩
end
end Toy
namespace Toy
open PySem PySem.Spec PyProof.Rows L2 Kx
section
open Dm
def m_behind_cut : Dm.Fn := mFn0 3 12 ((sSeq (sUn (unD 7 (tgCons (tgN 3) (tgCons (tgN 4) (tgCons (tgN 5) (tgCons (tgN 6) (tgCons (tgN 7) (tgCons (tgN 8) (tgCons (tgN 9) tgNil)))))))) (mVar 1))
    (sSeq (sSet 3 (mCall m_with_item (mCons (mVar 3) (mCons (mVar 2) (mCons (mC (.bl false)) mNil)))))
    (sSeq (sSet 10 (mOp gIx (frz (mFld [2] "groups" (mVar 0))) (mVar 2)))
    (sSeq (sIf (mNot (mTest (frz (mCB gAny (mCons (frz (mLc (itSeq (mVar 10)) [11] (tgN 11) mYes (frz (mOp gIx (mVar 3) (mVar 11))))) mNil))))) (sSet 5 (mCall m_with_group (mCons (mVar 5) (mCons (mVar 10) (mCons (frz (mCall m_is_stopped (mCons (mVar 7) (mCons (mVar 8) mNil)))) mNil))))) sNx)
    (sRet (toC (mTup (mCons (mVar 3) (mCons (mVar 4) (mCons (mVar 5) (mCons (mVar 6) (mCons (mVar 7) (mCons (mVar 8) (mCons (mVar 9) mNil)))))))))))))))
variable {P : Program} {w : World} {K : PySem.W.Frag} {mg : Str → Option Value} {base : Heap}
theorem ok_behind_cut (T : Txt K mg) : FnOk P w K mg base CX0 2 T.a_behind_cut T.d_behind_cut ["layout", "state", "at"] (spP T.W m_behind_cut) := by
  have nd := sc_behind_cut.nd
  refine T.F_behind_cut.ok sc_behind_cut (fun vs H Q E h => spP0_len (E := E) h) (fun cdv A outer s H vs Q E hr h => ?_)
  have hu := hu_of hr
  have hu65 := hu65_of hr
  exact ⟨_, (pss_cons (ps_asg (pv 1) (pg_un (K := K) rfl 7 rfl (pgs_cons (pg_name (i := 3) nd rfl (by first | exact Or.inl rfl | exact Or.inr rfl)) (pgs_cons (pg_name (i := 4) nd rfl (by first | exact Or.inl rfl | exact Or.inr rfl)) (pgs_cons (pg_name (i := 5) nd rfl (by first | exact Or.inl rfl | exact Or.inr rfl)) (pgs_cons (pg_name (i := 6) nd rfl (by first | exact Or.inl rfl | exact Or.inr rfl)) (pgs_cons (pg_name (i := 7) nd rfl (by first | exact Or.inl rfl | exact Or.inr rfl)) (pgs_cons (pg_name (i := 8) nd rfl (by first | exact Or.inl rfl | exact Or.inr rfl)) (pgs_cons (pg_name (i := 9) nd rfl (by first | exact Or.inl rfl | exact Or.inr rfl)) pgs_nil)))))))))
      (pss_cons (ps_set (i := 3) nd rfl (by first | exact Or.inl rfl | exact Or.inr rfl) (pe_call (ok_with_item T) (hr.mono (by decide)) rfl T.g_with_item T.k_with_item T.b_with_item .nil pass0 (pa_cons (pv 3) (pa_cons (pv 2) (pa_cons (pe_bl) pa_nil)))))
      (pss_cons (ps_set (i := 10) nd rfl (by first | exact Or.inl rfl | exact Or.inr rfl) (pe_ix (ix_D (K := K) rfl hu) (pe_fldK (K := K) rfl (pv 0) rfl) (pv 2) (fun _ _ => rfl)))
      (pss_cons (ps_if (pt_not (pt_val (pe_callB (call_anyA (K := K) rfl rfl) (by rfl) T.no_any (by decide +kernel) (pa_cons (pe_lc (own := [("index", 11)]) rfl nd (pi_seq (K := K) rfl (pv 10)) (blkOk_by (N := ["layout", "state", "at", "lines", "untold", "heard", "remembered", "left", "lost", "tops", "group", "index"]) (sc := defScope s_behind_cut) (by decide +kernel)) (fun _ _ _ _ _ => (pg_name (i := 11) nd rfl (by first | exact Or.inl rfl | exact Or.inr rfl))) (fun _ _ _ _ _ => pts_nil) (fun _ _ _ _ _ => (pe_ix (ix_D (K := K) rfl hu) (pv 3) (pv 11) (fun _ _ => rfl)))) pa_nil)))) (pss_one (ps_set (i := 5) nd rfl (by first | exact Or.inl rfl | exact Or.inr rfl) (pe_call (ok_with_group T) (hr.mono (by decide)) rfl T.g_with_group T.k_with_group T.b_with_group .nil pass0 (pa_cons (pv 5) (pa_cons (pv 10) (pa_cons (pe_call (ok_is_stopped T) (hr.mono (by decide)) rfl T.g_is_stopped T.k_is_stopped T.b_is_stopped .nil pass0 (pa_cons (pv 7) (pa_cons (pv 8) pa_nil))) pa_nil)))))) pss_nil)
      (pss_one (ps_ret (pe_tup (pa_cons (pv 3) (pa_cons (pv 4) (pa_cons (pv 5) (pa_cons (pv 6) (pa_cons (pv 7) (pa_cons (pv 8) (pa_cons (pv 9) pa_nil)))))))))))))), fnP0 rfl (ds_seq (ds_un dv_var (dg_un (dgs_consG dg_nameG (dgs_consG dg_nameG (dgs_consG dg_nameG (dgs_consG dg_nameG (dgs_consG dg_nameG (dgs_consG dg_nameG (dgs_consG dg_nameG dgs_nilG)))))))))
      (ds_seq (ds_set (i := 3) (de_call (da_cons dv_var (da_cons dv_var (da_cons dv_bl da_nil)))))
      (ds_seq (ds_set (i := 10) (de_op d2_ix (DE.dv (de_fld (cs := [2]) (List.forall_mem_cons.mpr ⟨⟨T.cl_Layout, T.n_Layout_groups⟩, List.forall_mem_nil _⟩) dv_var)) dv_var))
      (ds_seq (ds_if (dt_not (dt_B (DE.dv (de_cb db_any (da_cons (DE.dv (de_lc (vs := [11]) (di_seq dv_var) dg_nameG dt_yesG (DE.dv (de_op d2_ix dv_var dv_var)) (by decide))) da_nil))))) (ds_set (i := 5) (de_call (da_cons dv_var (da_cons dv_var (da_cons (DE.dv (de_call (da_cons dv_var (da_cons dv_var da_nil)))) da_nil))))) ds_next)
      (ds_ret (DV.de (dv_tup (da_cons dv_var (da_cons dv_var (da_cons dv_var (da_cons dv_var (da_cons dv_var (da_cons dv_var (da_cons dv_var da_nil)))))))))))))) h⟩
end
end Toy
namespace Toy
open PySem PySem.Spec PyProof.Rows L2 Kx
section
open Dm
def m_cut_to_tops : Dm.Fn := mFn0 2 2 ((sRet (toC (mIf (mTest (frz (mOp gGt (mVar 0) (frz (mUn gNeg (mVar 1)))))) (mVar 0) (frz (mUn gNeg (mVar 1)))))))
variable {P : Program} {w : World} {K : PySem.W.Frag} {mg : Str → Option Value} {base : Heap}
theorem ok_cut_to_tops (T : Txt K mg) : FnOk P w K mg base CX0 1 T.a_cut_to_tops T.d_cut_to_tops ["left", "tops"] (spP T.W m_cut_to_tops) := by
  have nd := sc_cut_to_tops.nd
  refine T.F_cut_to_tops.ok sc_cut_to_tops (fun vs H Q E h => spP0_len (E := E) h) (fun cdv A outer s H vs Q E hr h => ?_)
  have hu := hu_of hr
  have hu65 := hu65_of hr
  exact ⟨_, (pss_one (ps_ret (pe_ifExp (pt_cmpR op_gtD (pv 0) (pe_un un_neg (pv 1)) (nomark _)) (pv 0) (pe_un un_neg (pv 1))))), fnP0 rfl (ds_ret (DV.de (dv_if (dt_test (DE.dv (de_op d2_gt dv_var (DE.dv (de_un d1_negG dv_var))))) dv_var (DE.dv (de_un d1_negG dv_var))))) h⟩
end
end Toy
namespace Toy
open PySem PySem.Spec PyProof.Rows L2 Kx
section
open Dm
def m_behind_line : Dm.Fn := mFn0 3 10 ((sSeq (sUn (unD 7 (tgCons (tgN 3) (tgCons (tgN 4) (tgCons (tgN 5) (tgCons (tgN 6) (tgCons (tgN 7) (tgCons (tgN 8) (tgCons (tgN 9) tgNil)))))))) (mVar 1))
    (sSeq (sSet 7 (mCall m_cut_to_tops (mCons (frz (mOp gMinus (mVar 7) (frz (mOp gIx (mVar 4) (mVar 2))))) (mCons (mVar 9) mNil))))
    (sSeq (sSet 3 (mCall m_with_item (mCons (mVar 3) (mCons (mVar 2) (mCons (mC (.bl true)) mNil)))))
    (sSeq (sSet 4 (mCall m_with_item (mCons (mVar 4) (mCons (mVar 2) (mCons (mC (.int 0)) mNil)))))
    (sSeq (sSet 5 (mCall m_with_group (mCons (mVar 5) (mCons (frz (mOp gIx (frz (mFld [2] "groups" (mVar 0))) (mVar 2))) (mCons (mC (.bl false)) mNil)))))
    (sRet (toC (mTup (mCons (mVar 3) (mCons (mVar 4) (mCons (mVar 5) (mCons (mVar 6) (mCons (mVar 7) (mCons (mVar 8) (mCons (mVar 9) mNil))))))))))))))))
variable {P : Program} {w : World} {K : PySem.W.Frag} {mg : Str → Option Value} {base : Heap}
theorem ok_behind_line (T : Txt K mg) : FnOk P w K mg base CX0 2 T.a_behind_line T.d_behind_line ["layout", "state", "at"] (spP T.W m_behind_line) := by
  have nd := sc_behind_line.nd
  refine T.F_behind_line.ok sc_behind_line (fun vs H Q E h => spP0_len (E := E) h) (fun cdv A outer s H vs Q E hr h => ?_)
  have hu := hu_of hr
  have hu65 := hu65_of hr
  exact ⟨_, (pss_cons (ps_asg (pv 1) (pg_un (K := K) rfl 7 rfl (pgs_cons (pg_name (i := 3) nd rfl (by first | exact Or.inl rfl | exact Or.inr rfl)) (pgs_cons (pg_name (i := 4) nd rfl (by first | exact Or.inl rfl | exact Or.inr rfl)) (pgs_cons (pg_name (i := 5) nd rfl (by first | exact Or.inl rfl | exact Or.inr rfl)) (pgs_cons (pg_name (i := 6) nd rfl (by first | exact Or.inl rfl | exact Or.inr rfl)) (pgs_cons (pg_name (i := 7) nd rfl (by first | exact Or.inl rfl | exact Or.inr rfl)) (pgs_cons (pg_name (i := 8) nd rfl (by first | exact Or.inl rfl | exact Or.inr rfl)) (pgs_cons (pg_name (i := 9) nd rfl (by first | exact Or.inl rfl | exact Or.inr rfl)) pgs_nil)))))))))
      (pss_cons (ps_set (i := 7) nd rfl (by first | exact Or.inl rfl | exact Or.inr rfl) (pe_call (ok_cut_to_tops T) (hr.mono (by decide)) rfl T.g_cut_to_tops T.k_cut_to_tops T.b_cut_to_tops .nil pass0 (pa_cons (pe_op op_sub (pv 7) (pe_ix (ix_D (K := K) rfl hu) (pv 4) (pv 2) (fun _ _ => rfl))) (pa_cons (pv 9) pa_nil))))
      (pss_cons (ps_set (i := 3) nd rfl (by first | exact Or.inl rfl | exact Or.inr rfl) (pe_call (ok_with_item T) (hr.mono (by decide)) rfl T.g_with_item T.k_with_item T.b_with_item .nil pass0 (pa_cons (pv 3) (pa_cons (pv 2) (pa_cons (pe_bl) pa_nil)))))
      (pss_cons (ps_set (i := 4) nd rfl (by first | exact Or.inl rfl | exact Or.inr rfl) (pe_call (ok_with_item T) (hr.mono (by decide)) rfl T.g_with_item T.k_with_item T.b_with_item .nil pass0 (pa_cons (pv 4) (pa_cons (pv 2) (pa_cons (pe_int) pa_nil)))))
      (pss_cons (ps_set (i := 5) nd rfl (by first | exact Or.inl rfl | exact Or.inr rfl) (pe_call (ok_with_group T) (hr.mono (by decide)) rfl T.g_with_group T.k_with_group T.b_with_group .nil pass0 (pa_cons (pv 5) (pa_cons (pe_ix (ix_D (K := K) rfl hu) (pe_fldK (K := K) rfl (pv 0) rfl) (pv 2) (fun _ _ => rfl)) (pa_cons (pe_bl) pa_nil)))))
      (pss_one (ps_ret (pe_tup (pa_cons (pv 3) (pa_cons (pv 4) (pa_cons (pv 5) (pa_cons (pv 6) (pa_cons (pv 7) (pa_cons (pv 8) (pa_cons (pv 9) pa_nil))))))))))))))), fnP0 rfl (ds_seq (ds_un dv_var (dg_un (dgs_consG dg_nameG (dgs_consG dg_nameG (dgs_consG dg_nameG (dgs_consG dg_nameG (dgs_consG dg_nameG (dgs_consG dg_nameG (dgs_consG dg_nameG dgs_nilG)))))))))
      (ds_seq (ds_set (i := 7) (de_call (da_cons (DE.dv (de_op d2_sub dv_var (DE.dv (de_op d2_ix dv_var dv_var)))) (da_cons dv_var da_nil))))
      (ds_seq (ds_set (i := 3) (de_call (da_cons dv_var (da_cons dv_var (da_cons dv_bl da_nil)))))
      (ds_seq (ds_set (i := 4) (de_call (da_cons dv_var (da_cons dv_var (da_cons dv_int da_nil)))))
      (ds_seq (ds_set (i := 5) (de_call (da_cons dv_var (da_cons (DE.dv (de_op d2_ix (DE.dv (de_fld (cs := [2]) (List.forall_mem_cons.mpr ⟨⟨T.cl_Layout, T.n_Layout_groups⟩, List.forall_mem_nil _⟩) dv_var)) dv_var)) (da_cons dv_bl da_nil)))))
      (ds_ret (DV.de (dv_tup (da_cons dv_var (da_cons dv_var (da_cons dv_var (da_cons dv_var (da_cons dv_var (da_cons dv_var (da_cons dv_var da_nil))))))))))))))) h⟩
end
end Toy
namespace Toy
open PySem PySem.Spec PyProof.Rows L2 Kx
section
open Dm
def m_behind_loss : Dm.Fn := mFn0 1 6 ((sSeq (sUn (unD 5 (tgCons (tgN 1) (tgCons (tgN 2) (tgCons (tgN 3) (tgCons (tgN 4) (tgCons (tgN 5) tgNil)))))) (frz (mSl (mVar 0) mNoPart (mPart (mC (.int 5))))))
    (sRet (toC (mTup (mCons (mVar 1) (mCons (mVar 2) (mCons (mVar 3) (mCons (mVar 4) (mCons (frz (mCall m_cut_to_tops (mCons (mVar 5) (mCons (mC (.int 0)) mNil)))) (mCons (mC (.bl true)) (mCons (mC (.int 0)) mNil))))))))))))
variable {P : Program} {w : World} {K : PySem.W.Frag} {mg : Str → Option Value} {base : Heap}
theorem ok_behind_loss (T : Txt K mg) : FnOk P w K mg base CX0 2 T.a_behind_loss T.d_behind_loss ["state"] (spP T.W m_behind_loss) := by
  have nd := sc_behind_loss.nd
  refine T.F_behind_loss.ok sc_behind_loss (fun vs H Q E h => spP0_len (E := E) h) (fun cdv A outer s H vs Q E hr h => ?_)
  have hu := hu_of hr
  have hu65 := hu65_of hr
  exact ⟨_, (pss_cons (ps_asg (pe_slice (sl_D (K := K) rfl) (pv 0) po_none (po_some (pe_int))) (pg_un (K := K) rfl 5 rfl (pgs_cons (pg_name (i := 1) nd rfl (by first | exact Or.inl rfl | exact Or.inr rfl)) (pgs_cons (pg_name (i := 2) nd rfl (by first | exact Or.inl rfl | exact Or.inr rfl)) (pgs_cons (pg_name (i := 3) nd rfl (by first | exact Or.inl rfl | exact Or.inr rfl)) (pgs_cons (pg_name (i := 4) nd rfl (by first | exact Or.inl rfl | exact Or.inr rfl)) (pgs_cons (pg_name (i := 5) nd rfl (by first | exact Or.inl rfl | exact Or.inr rfl)) pgs_nil)))))))
      (pss_one (ps_ret (pe_tup (pa_cons (pv 1) (pa_cons (pv 2) (pa_cons (pv 3) (pa_cons (pv 4) (pa_cons (pe_call (ok_cut_to_tops T) (hr.mono (by decide)) rfl T.g_cut_to_tops T.k_cut_to_tops T.b_cut_to_tops .nil pass0 (pa_cons (pv 5) (pa_cons (pe_int) pa_nil))) (pa_cons (pe_bl) (pa_cons (pe_int) pa_nil))))))))))), fnP0 rfl (ds_seq (ds_un (DE.dv (de_sl dv_var do_none (do_some dv_int))) (dg_un (dgs_consG dg_nameG (dgs_consG dg_nameG (dgs_consG dg_nameG (dgs_consG dg_nameG (dgs_consG dg_nameG dgs_nilG)))))))
      (ds_ret (DV.de (dv_tup (da_cons dv_var (da_cons dv_var (da_cons dv_var (da_cons dv_var (da_cons (DE.dv (de_call (da_cons dv_var (da_cons dv_int da_nil)))) (da_cons dv_bl (da_cons dv_int da_nil))))))))))) h⟩
end
end Toy
namespace Toy
open PySem PySem.Spec PyProof.Rows L2 Kx
section
open Dm
def m_to_remember : Dm.Fn := mFn0 2 2 ((sSeq (sIf (mTest (frz (mOp gEq (frz (mFld [2] "kind" (mVar 0))) (mC (.str "nothing"))))) (sRet (toC (mC (.int 0)))) sNx)
    (sRet (toC (mIf (mTest (frz (mOp gEq (frz (mFld [2] "kind" (mVar 0))) (mC (.str "sum"))))) (mVar 1) (mC (.int 1)))))))
variable {P : Program} {w : World} {K : PySem.W.Frag} {mg : Str → Option Value} {base : Heap}
theorem ok_to_remember (T : Txt K mg) : FnOk P w K mg base CX0 1 T.a_to_remember T.d_to_remember ["layout", "units"] (spP T.W m_to_remember) := by
  have nd := sc_to_remember.nd
  refine T.F_to_remember.ok sc_to_remember (fun vs H Q E h => spP0_len (E := E) h) (fun cdv A outer s H vs Q E hr h => ?_)
  have hu := hu_of hr
  have hu65 := hu65_of hr
  exact ⟨_, (pss_cons (ps_if (pt_cmpR (op_eqK (K := K) rfl hr.units) (pe_fldK (K := K) rfl (pv 0) rfl) (pe_str) (nomark _)) (pss_one (ps_ret (pe_int))) pss_nil)
      (pss_one (ps_ret (pe_ifExp (pt_cmpR (op_eqK (K := K) rfl hr.units) (pe_fldK (K := K) rfl (pv 0) rfl) (pe_str) (nomark _)) (pv 1) (pe_int))))), fnP0 rfl (ds_seq (ds_if (dt_test (DE.dv (de_op d2_eq (DE.dv (de_fld (cs := [2]) (List.forall_mem_cons.mpr ⟨⟨T.cl_Layout, T.n_Layout_kind⟩, List.forall_mem_nil _⟩) dv_var)) dv_str))) (ds_ret (DV.de dv_int)) ds_next)
      (ds_ret (DV.de (dv_if (dt_test (DE.dv (de_op d2_eq (DE.dv (de_fld (cs := [2]) (List.forall_mem_cons.mpr ⟨⟨T.cl_Layout, T.n_Layout_kind⟩, List.forall_mem_nil _⟩) dv_var)) dv_str))) dv_var dv_int)))) h⟩
end
end Toy
namespace Toy
open PySem PySem.Spec PyProof.Rows L2 Kx
section
open Dm
def m_takes_for_stopped : Dm.Fn := mFn0 3 8 ((sSeq (sUn (unD 4 (tgCons (tgN 3) (tgCons (tgN 4) (tgCons (tgN 5) (tgCons (tgN 6) tgNil))))) (mTup (mCons (frz (mOp gIx (mVar 1) (mC (.int 0)))) (mCons (frz (mOp gIx (mVar 1) (mC (.int 2)))) (mCons (frz (mOp gIx (mVar 1) (mC (.int 4)))) (mCons (frz (mOp gIx (mVar 1) (mC (.int 5)))) mNil))))))
    (sSeq (sIf (mTest (frz (mCB gAny (mCons (frz (mLc (itSeq (frz (mOp gIx (frz (mFld [2] "groups" (mVar 0))) (mVar 2)))) [7] (tgN 7) mYes (frz (mOp gIx (mVar 3) (mVar 7))))) mNil)))) (sRet (mCall m_is_stopped (mCons (mVar 5) (mCons (mVar 6) mNil)))) sNx)
    (sRet (mOp gIx (mVar 4) (mVar 2))))))
variable {P : Program} {w : World} {K : PySem.W.Frag} {mg : Str → Option Value} {base : Heap}
theorem ok_takes_for_stopped (T : Txt K mg) : FnOk P w K mg base CX0 2 T.a_takes_for_stopped T.d_takes_for_stopped ["layout", "state", "at"] (spP T.W m_takes_for_stopped) := by
  have nd := sc_takes_for_stopped.nd
  refine T.F_takes_for_stopped.ok sc_takes_for_stopped (fun vs H Q E h => spP0_len (E := E) h) (fun cdv A outer s H vs Q E hr h => ?_)
  have hu := hu_of hr
  have hu65 := hu65_of hr
  exact ⟨_, (pss_cons (ps_asg (pe_tup (pa_cons (pe_ix (ix_D (K := K) rfl hu) (pv 1) (pe_int) (fun _ _ => rfl)) (pa_cons (pe_ix (ix_D (K := K) rfl hu) (pv 1) (pe_int) (fun _ _ => rfl)) (pa_cons (pe_ix (ix_D (K := K) rfl hu) (pv 1) (pe_int) (fun _ _ => rfl)) (pa_cons (pe_ix (ix_D (K := K) rfl hu) (pv 1) (pe_int) (fun _ _ => rfl)) pa_nil))))) (pg_un (K := K) rfl 4 rfl (pgs_cons (pg_name (i := 3) nd rfl (by first | exact Or.inl rfl | exact Or.inr rfl)) (pgs_cons (pg_name (i := 4) nd rfl (by first | exact Or.inl rfl | exact Or.inr rfl)) (pgs_cons (pg_name (i := 5) nd rfl (by first | exact Or.inl rfl | exact Or.inr rfl)) (pgs_cons (pg_name (i := 6) nd rfl (by first | exact Or.inl rfl | exact Or.inr rfl)) pgs_nil))))))
      (pss_cons (ps_if (pt_val (pe_callB (call_anyA (K := K) rfl rfl) (by rfl) T.no_any (by decide +kernel) (pa_cons (pe_lc (own := [("index", 7)]) rfl nd (pi_seq (K := K) rfl (pe_ix (ix_D (K := K) rfl hu) (pe_fldK (K := K) rfl (pv 0) rfl) (pv 2) (fun _ _ => rfl))) (blkOk_by (N := ["layout", "state", "at", "lines", "heard", "left", "lost", "index"]) (sc := defScope s_takes_for_stopped) (by decide +kernel)) (fun _ _ _ _ _ => (pg_name (i := 7) nd rfl (by first | exact Or.inl rfl | exact Or.inr rfl))) (fun _ _ _ _ _ => pts_nil) (fun _ _ _ _ _ => (pe_ix (ix_D (K := K) rfl hu) (pv 3) (pv 7) (fun _ _ => rfl)))) pa_nil))) (pss_one (ps_ret (pe_call (ok_is_stopped T) (hr.mono (by decide)) rfl T.g_is_stopped T.k_is_stopped T.b_is_stopped .nil pass0 (pa_cons (pv 5) (pa_cons (pv 6) pa_nil))))) pss_nil)
      (pss_one (ps_ret (pe_ix (ix_D (K := K) rfl hu) (pv 4) (pv 2) (fun _ _ => rfl)))))), fnP0 rfl (ds_seq (ds_un (dv_tup (da_cons (DE.dv (de_op d2_ix dv_var dv_int)) (da_cons (DE.dv (de_op d2_ix dv_var dv_int)) (da_cons (DE.dv (de_op d2_ix dv_var dv_int)) (da_cons (DE.dv (de_op d2_ix dv_var dv_int)) da_nil))))) (dg_un (dgs_consG dg_nameG (dgs_consG dg_nameG (dgs_consG dg_nameG (dgs_consG dg_nameG dgs_nilG))))))
      (ds_seq (ds_if (dt_B (DE.dv (de_cb db_any (da_cons (DE.dv (de_lc (vs := [7]) (di_seq (DE.dv (de_op d2_ix (DE.dv (de_fld (cs := [2]) (List.forall_mem_cons.mpr ⟨⟨T.cl_Layout, T.n_Layout_groups⟩, List.forall_mem_nil _⟩) dv_var)) dv_var))) dg_nameG dt_yesG (DE.dv (de_op d2_ix dv_var dv_var)) (by decide))) da_nil)))) (ds_ret (de_call (da_cons dv_var (da_cons dv_var da_nil)))) ds_next)
      (ds_ret (de_op d2_ix dv_var dv_var)))) h⟩
end
end Toy
namespace Toy
open PySem PySem.Spec PyProof.Rows L2 Kx
section
open Dm
def m_word_of_payment : Dm.Fn := mFn0 4 11 ((sSeq (sUn (unD 7 (tgCons (tgN 4) (tgCons (tgN 5) (tgCons (tgN 6) (tgCons (tgN 7) (tgCons (tgN 8) (tgCons (tgN 9) (tgCons (tgN 6) tgNil)))))))) (mVar 1))
    (sSeq (sIf (mTest (frz (mOp gIx (mVar 4) (mVar 2)))) (sRet (toC (mIf (mOr (mTest (mVar 9)) (mTest (frz (mOp gLtD (mVar 8) (mVar 3))))) (mC (.str "house")) (mC (.str "taken"))))) sNx)
    (sSeq (sIf (mAnd (mTest (frz (mOp gIx (frz (mFld [2] "heeding" (mVar 0))) (mVar 2)))) (mTest (frz (mCall m_takes_for_stopped (mCons (mVar 0) (mCons (mVar 1) (mCons (mVar 2) mNil))))))) (sRet (toC (mC (.str "list")))) sNx)
    (sSeq (sIf (mTest (frz (mOp gGt (frz (mOp gAdd (frz (mCB gSum (mCons (frz (mLc (itSeq (frz (mOp gIx (frz (mFld [2] "groups" (mVar 0))) (mVar 2)))) [10] (tgN 10) mYes (frz (mOp gIx (mVar 5) (mVar 10))))) mNil))) (mVar 3))) (frz (mOp gIx (frz (mFld [2] "limits" (mVar 0))) (mVar 2)))))) (sRet (toC (mC (.str "limit")))) sNx)
    (sSeq (sIf (mTest (frz (mOp gGt (frz (mOp gAdd (mVar 7) (frz (mCall m_to_remember (mCons (mVar 0) (mCons (mVar 3) mNil)))))) (frz (mFld [2] "top_remembered" (mVar 0)))))) (sRet (toC (mC (.str "memory")))) sNx)
    (sRet (toC (mC (.str "taken"))))))))))
variable {P : Program} {w : World} {K : PySem.W.Frag} {mg : Str → Option Value} {base : Heap}
theorem ok_word_of_payment (T : Txt K mg) : FnOk P w K mg base CX0 3 T.a_word_of_payment T.d_word_of_payment ["layout", "state", "at", "units"] (spP T.W m_word_of_payment) := by
  have nd := sc_word_of_payment.nd
  refine T.F_word_of_payment.ok sc_word_of_payment (fun vs H Q E h => spP0_len (E := E) h) (fun cdv A outer s H vs Q E hr h => ?_)
  have hu := hu_of hr
  have hu65 := hu65_of hr
  exact ⟨_, (pss_cons (ps_asg (pv 1) (pg_un (K := K) rfl 7 rfl (pgs_cons (pg_name (i := 4) nd rfl (by first | exact Or.inl rfl | exact Or.inr rfl)) (pgs_cons (pg_name (i := 5) nd rfl (by first | exact Or.inl rfl | exact Or.inr rfl)) (pgs_cons (pg_name (i := 6) nd rfl (by first | exact Or.inl rfl | exact Or.inr rfl)) (pgs_cons (pg_name (i := 7) nd rfl (by first | exact Or.inl rfl | exact Or.inr rfl)) (pgs_cons (pg_name (i := 8) nd rfl (by first | exact Or.inl rfl | exact Or.inr rfl)) (pgs_cons (pg_name (i := 9) nd rfl (by first | exact Or.inl rfl | exact Or.inr rfl)) (pgs_cons (pg_name (i := 6) nd rfl (by first | exact Or.inl rfl | exact Or.inr rfl)) pgs_nil)))))))))
      (pss_cons (ps_if (pt_val (pe_ix (ix_D (K := K) rfl hu) (pv 4) (pv 2) (fun _ _ => rfl))) (pss_one (ps_ret (pe_ifExp (PW.pt (pw_or (pt_val (pv 9)) (pw_or1 (pt_cmpR op_ltD (pv 8) (pv 3) (nomark _))))) (pe_str) (pe_str)))) pss_nil)
      (pss_cons (ps_if (PW.pt (pw_and (pt_val (pe_ix (ix_D (K := K) rfl hu) (pe_fldK (K := K) rfl (pv 0) rfl) (pv 2) (fun _ _ => rfl))) (pw_and1 (pt_val (pe_call (ok_takes_for_stopped T) (hr.mono (by decide)) rfl T.g_takes_for_stopped T.k_takes_for_stopped T.b_takes_for_stopped .nil pass0 (pa_cons (pv 0) (pa_cons (pv 1) (pa_cons (pv 2) pa_nil)))))))) (pss_one (ps_ret (pe_str))) pss_nil)
      (pss_cons (ps_if (pt_cmpR op_gtD (pe_op (op_addD (K := K) rfl) (pe_callB (call_sumA (K := K) rfl rfl) (by rfl) T.no_sum (by decide +kernel) (pa_cons (pe_lc (own := [("index", 10)]) rfl nd (pi_seq (K := K) rfl (pe_ix (ix_D (K := K) rfl hu) (pe_fldK (K := K) rfl (pv 0) rfl) (pv 2) (fun _ _ => rfl))) (blkOk_by (N := ["layout", "state", "at", "units", "lines", "untold", "_", "remembered", "left", "lost", "index"]) (sc := defScope s_word_of_payment) (by decide +kernel)) (fun _ _ _ _ _ => (pg_name (i := 10) nd rfl (by first | exact Or.inl rfl | exact Or.inr rfl))) (fun _ _ _ _ _ => pts_nil) (fun _ _ _ _ _ => (pe_ix (ix_D (K := K) rfl hu) (pv 5) (pv 10) (fun _ _ => rfl)))) pa_nil)) (pv 3)) (pe_ix (ix_D (K := K) rfl hu) (pe_fldK (K := K) rfl (pv 0) rfl) (pv 2) (fun _ _ => rfl)) (nomark _)) (pss_one (ps_ret (pe_str))) pss_nil)
      (pss_cons (ps_if (pt_cmpR op_gtD (pe_op (op_addD (K := K) rfl) (pv 7) (pe_call (ok_to_remember T) (hr.mono (by decide)) rfl T.g_to_remember T.k_to_remember T.b_to_remember .nil pass0 (pa_cons (pv 0) (pa_cons (pv 3) pa_nil)))) (pe_fldK (K := K) rfl (pv 0) rfl) (nomark _)) (pss_one (ps_ret (pe_str))) pss_nil)
      (pss_one (ps_ret (pe_str)))))))), fnP0 rfl (ds_seq (ds_un dv_var (dg_un (dgs_consG dg_nameG (dgs_consG dg_nameG (dgs_consG dg_nameG (dgs_consG dg_nameG (dgs_consG dg_nameG (dgs_consG dg_nameG (dgs_consG dg_nameG dgs_nilG)))))))))
      (ds_seq (ds_if (dt_B (DE.dv (de_op d2_ix dv_var dv_var))) (ds_ret (DV.de (dv_if (dt_or (dt_B dv_var) (dt_test (DE.dv (de_op d2_lt dv_var dv_var)))) dv_str dv_str))) ds_next)
      (ds_seq (ds_if (dt_and (dt_B (DE.dv (de_op d2_ix (DE.dv (de_fld (cs := [2]) (List.forall_mem_cons.mpr ⟨⟨T.cl_Layout, T.n_Layout_heeding⟩, List.forall_mem_nil _⟩) dv_var)) dv_var))) (dt_B (DE.dv (de_call (da_cons dv_var (da_cons dv_var (da_cons dv_var da_nil))))))) (ds_ret (DV.de dv_str)) ds_next)
      (ds_seq (ds_if (dt_test (DE.dv (de_op d2_gt (DE.dv (de_op d2_add (DE.dv (de_cb db_sum (da_cons (DE.dv (de_lc (vs := [10]) (di_seq (DE.dv (de_op d2_ix (DE.dv (de_fld (cs := [2]) (List.forall_mem_cons.mpr ⟨⟨T.cl_Layout, T.n_Layout_groups⟩, List.forall_mem_nil _⟩) dv_var)) dv_var))) dg_nameG dt_yesG (DE.dv (de_op d2_ix dv_var dv_var)) (by decide))) da_nil))) dv_var)) (DE.dv (de_op d2_ix (DE.dv (de_fld (cs := [2]) (List.forall_mem_cons.mpr ⟨⟨T.cl_Layout, T.n_Layout_limits⟩, List.forall_mem_nil _⟩) dv_var)) dv_var))))) (ds_ret (DV.de dv_str)) ds_next)
      (ds_seq (ds_if (dt_test (DE.dv (de_op d2_gt (DE.dv (de_op d2_add dv_var (DE.dv (de_call (da_cons dv_var (da_cons dv_var da_nil)))))) (DE.dv (de_fld (cs := [2]) (List.forall_mem_cons.mpr ⟨⟨T.cl_Layout, T.n_Layout_top_remembered⟩, List.forall_mem_nil _⟩) dv_var))))) (ds_ret (DV.de dv_str)) ds_next)
      (ds_ret (DV.de dv_str))))))) h⟩
end
end Toy
namespace Toy
open PySem PySem.Spec PyProof.Rows L2 Kx
section
open Dm
def m_behind_payment : Dm.Fn := mFn0 4 12 ((sSeq (sSet 4 (mCall m_word_of_payment (mCons (mVar 0) (mCons (mVar 1) (mCons (mVar 2) (mCons (mVar 3) mNil))))))
    (sSeq (sIf (mTest (frz (mOp gNe (mVar 4) (mC (.str "taken"))))) (sRet (toC (mTup (mCons (mVar 1) (mCons (mVar 4) mNil))))) sNx)
    (sSeq (sUn (unD 7 (tgCons (tgN 5) (tgCons (tgN 6) (tgCons (tgN 7) (tgCons (tgN 8) (tgCons (tgN 9) (tgCons (tgN 10) (tgCons (tgN 11) tgNil)))))))) (mVar 1))
    (sSeq (sIf (mTest (frz (mOp gIx (mVar 5) (mVar 2)))) (sRet (toC (mTup (mCons (mTup (mCons (mVar 5) (mCons (mVar 6) (mCons (mVar 7) (mCons (mC (.int 0)) (mCons (frz (mOp gMinus (mVar 9) (mVar 3))) (mCons (mVar 10) (mCons (mVar 11) mNil)))))))) (mCons (mVar 4) mNil))))) sNx)
    (sSeq (sSet 6 (mCall m_with_item (mCons (mVar 6) (mCons (mVar 2) (mCons (frz (mOp gAdd (frz (mOp gIx (mVar 6) (mVar 2))) (mVar 3))) mNil)))))
    (sRet (toC (mTup (mCons (mTup (mCons (mVar 5) (mCons (mVar 6) (mCons (mVar 7) (mCons (frz (mOp gAdd (mVar 8) (frz (mCall m_to_remember (mCons (mVar 0) (mCons (mVar 3) mNil)))))) (mCons (mVar 9) (mCons (mVar 10) (mCons (mVar 11) mNil)))))))) (mCons (mVar 4) mNil)))))))))))
variable {P : Program} {w : World} {K : PySem.W.Frag} {mg : Str → Option Value} {base : Heap}
theorem ok_behind_payment (T : Txt K mg) : FnOk P w K mg base CX0 4 T.a_behind_payment T.d_behind_payment ["layout", "state", "at", "units"] (spP T.W m_behind_payment) := by
  have nd := sc_behind_payment.nd
  refine T.F_behind_payment.ok sc_behind_payment (fun vs H Q E h => spP0_len (E := E) h) (fun cdv A outer s H vs Q E hr h => ?_)
  have hu := hu_of hr
  have hu65 := hu65_of hr
  exact ⟨_, (pss_cons (ps_set (i := 4) nd rfl (by first | exact Or.inl rfl | exact Or.inr rfl) (pe_call (ok_word_of_payment T) (hr.mono (by decide)) rfl T.g_word_of_payment T.k_word_of_payment T.b_word_of_payment .nil pass0 (pa_cons (pv 0) (pa_cons (pv 1) (pa_cons (pv 2) (pa_cons (pv 3) pa_nil))))))
      (pss_cons (ps_if (pt_cmpR (op_neK (K := K) rfl hr.units) (pv 4) (pe_str) (nomark _)) (pss_one (ps_ret (pe_tup (pa_cons (pv 1) (pa_cons (pv 4) pa_nil))))) pss_nil)
      (pss_cons (ps_asg (pv 1) (pg_un (K := K) rfl 7 rfl (pgs_cons (pg_name (i := 5) nd rfl (by first | exact Or.inl rfl | exact Or.inr rfl)) (pgs_cons (pg_name (i := 6) nd rfl (by first | exact Or.inl rfl | exact Or.inr rfl)) (pgs_cons (pg_name (i := 7) nd rfl (by first | exact Or.inl rfl | exact Or.inr rfl)) (pgs_cons (pg_name (i := 8) nd rfl (by first | exact Or.inl rfl | exact Or.inr rfl)) (pgs_cons (pg_name (i := 9) nd rfl (by first | exact Or.inl rfl | exact Or.inr rfl)) (pgs_cons (pg_name (i := 10) nd rfl (by first | exact Or.inl rfl | exact Or.inr rfl)) (pgs_cons (pg_name (i := 11) nd rfl (by first | exact Or.inl rfl | exact Or.inr rfl)) pgs_nil)))))))))
      (pss_cons (ps_if (pt_val (pe_ix (ix_D (K := K) rfl hu) (pv 5) (pv 2) (fun _ _ => rfl))) (pss_one (ps_ret (pe_tup (pa_cons (pe_tup (pa_cons (pv 5) (pa_cons (pv 6) (pa_cons (pv 7) (pa_cons (pe_int) (pa_cons (pe_op op_sub (pv 9) (pv 3)) (pa_cons (pv 10) (pa_cons (pv 11) pa_nil)))))))) (pa_cons (pv 4) pa_nil))))) pss_nil)
      (pss_cons (ps_set (i := 6) nd rfl (by first | exact Or.inl rfl | exact Or.inr rfl) (pe_call (ok_with_item T) (hr.mono (by decide)) rfl T.g_with_item T.k_with_item T.b_with_item .nil pass0 (pa_cons (pv 6) (pa_cons (pv 2) (pa_cons (pe_op (op_addD (K := K) rfl) (pe_ix (ix_D (K := K) rfl hu) (pv 6) (pv 2) (fun _ _ => rfl)) (pv 3)) pa_nil)))))
      (pss_one (ps_ret (pe_tup (pa_cons (pe_tup (pa_cons (pv 5) (pa_cons (pv 6) (pa_cons (pv 7) (pa_cons (pe_op (op_addD (K := K) rfl) (pv 8) (pe_call (ok_to_remember T) (hr.mono (by decide)) rfl T.g_to_remember T.k_to_remember T.b_to_remember .nil pass0 (pa_cons (pv 0) (pa_cons (pv 3) pa_nil)))) (pa_cons (pv 9) (pa_cons (pv 10) (pa_cons (pv 11) pa_nil)))))))) (pa_cons (pv 4) pa_nil)))))))))), fnP0 rfl (ds_seq (ds_set (i := 4) (de_call (da_cons dv_var (da_cons dv_var (da_cons dv_var (da_cons dv_var da_nil))))))
      (ds_seq (ds_if (dt_test (DE.dv (de_op d2_ne dv_var dv_str))) (ds_ret (DV.de (dv_tup (da_cons dv_var (da_cons dv_var da_nil))))) ds_next)
      (ds_seq (ds_un dv_var (dg_un (dgs_consG dg_nameG (dgs_consG dg_nameG (dgs_consG dg_nameG (dgs_consG dg_nameG (dgs_consG dg_nameG (dgs_consG dg_nameG (dgs_consG dg_nameG dgs_nilG)))))))))
      (ds_seq (ds_if (dt_B (DE.dv (de_op d2_ix dv_var dv_var))) (ds_ret (DV.de (dv_tup (da_cons (dv_tup (da_cons dv_var (da_cons dv_var (da_cons dv_var (da_cons dv_int (da_cons (DE.dv (de_op d2_sub dv_var dv_var)) (da_cons dv_var (da_cons dv_var da_nil)))))))) (da_cons dv_var da_nil))))) ds_next)
      (ds_seq (ds_set (i := 6) (de_call (da_cons dv_var (da_cons dv_var (da_cons (DE.dv (de_op d2_add (DE.dv (de_op d2_ix dv_var dv_var)) dv_var)) da_nil)))))
      (ds_ret (DV.de (dv_tup (da_cons (dv_tup (da_cons dv_var (da_cons dv_var (da_cons dv_var (da_cons (DE.dv (de_op d2_add dv_var (DE.dv (de_call (da_cons dv_var (da_cons dv_var da_nil)))))) (da_cons dv_var (da_cons dv_var (da_cons dv_var da_nil)))))))) (da_cons dv_var da_nil)))))))))) h⟩
end
end Toy
namespace Toy
open PySem PySem.Spec PyProof.Rows L2 Kx
section
open Dm
def m_behind_top : Dm.Fn := mFn0 2 9 ((sSeq (sUn (unD 7 (tgCons (tgN 2) (tgCons (tgN 3) (tgCons (tgN 4) (tgCons (tgN 5) (tgCons (tgN 6) (tgCons (tgN 7) (tgCons (tgN 8) tgNil)))))))) (mVar 0))
    (sRet (toC (mTup (mCons (mVar 2) (mCons (mVar 3) (mCons (mVar 4) (mCons (mVar 5) (mCons (frz (mOp gAdd (mVar 6) (mVar 1))) (mCons (mVar 7) (mCons (frz (mOp gMinus (mVar 8) (mVar 1))) mNil))))))))))))
variable {P : Program} {w : World} {K : PySem.W.Frag} {mg : Str → Option Value} {base : Heap}
theorem ok_behind_top (T : Txt K mg) : FnOk P w K mg base CX0 1 T.a_behind_top T.d_behind_top ["state", "units"] (spP T.W m_behind_top) := by
  have nd := sc_behind_top.nd
  refine T.F_behind_top.ok sc_behind_top (fun vs H Q E h => spP0_len (E := E) h) (fun cdv A outer s H vs Q E hr h => ?_)
  have hu := hu_of hr
  have hu65 := hu65_of hr
  exact ⟨_, (pss_cons (ps_asg (pv 0) (pg_un (K := K) rfl 7 rfl (pgs_cons (pg_name (i := 2) nd rfl (by first | exact Or.inl rfl | exact Or.inr rfl)) (pgs_cons (pg_name (i := 3) nd rfl (by first | exact Or.inl rfl | exact Or.inr rfl)) (pgs_cons (pg_name (i := 4) nd rfl (by first | exact Or.inl rfl | exact Or.inr rfl)) (pgs_cons (pg_name (i := 5) nd rfl (by first | exact Or.inl rfl | exact Or.inr rfl)) (pgs_cons (pg_name (i := 6) nd rfl (by first | exact Or.inl rfl | exact Or.inr rfl)) (pgs_cons (pg_name (i := 7) nd rfl (by first | exact Or.inl rfl | exact Or.inr rfl)) (pgs_cons (pg_name (i := 8) nd rfl (by first | exact Or.inl rfl | exact Or.inr rfl)) pgs_nil)))))))))
      (pss_one (ps_ret (pe_tup (pa_cons (pv 2) (pa_cons (pv 3) (pa_cons (pv 4) (pa_cons (pv 5) (pa_cons (pe_op (op_addD (K := K) rfl) (pv 6) (pv 1)) (pa_cons (pv 7) (pa_cons (pe_op op_sub (pv 8) (pv 1)) pa_nil))))))))))), fnP0 rfl (ds_seq (ds_un dv_var (dg_un (dgs_consG dg_nameG (dgs_consG dg_nameG (dgs_consG dg_nameG (dgs_consG dg_nameG (dgs_consG dg_nameG (dgs_consG dg_nameG (dgs_consG dg_nameG dgs_nilG)))))))))
      (ds_ret (DV.de (dv_tup (da_cons dv_var (da_cons dv_var (da_cons dv_var (da_cons dv_var (da_cons (DE.dv (de_op d2_add dv_var dv_var)) (da_cons dv_var (da_cons (DE.dv (de_op d2_sub dv_var dv_var)) da_nil))))))))))) h⟩
end
end Toy
namespace Toy
open PySem PySem.Spec PyProof.Rows L2 Kx
section
open Dm
def m_moved : Dm.Fn := mFn0 3 4 ((sSeq (sSet 3 (mOp gIx (mVar 2) (mC (.int 0))))
    (sSeq (sIf (mTest (frz (mOp gEq (mVar 3) (mC (.str "pay"))))) (sRet (mCall m_behind_payment (mCons (mVar 0) (mCons (mVar 1) (mCons (frz (mOp gIx (frz (mFld [2] "indexes" (mVar 0))) (frz (mOp gIx (mVar 2) (mC (.int 1)))))) (mCons (frz (mOp gIx (mVar 2) (mC (.int 2)))) mNil)))))) sNx)
    (sSeq (sIf (mTest (frz (mOp gEq (mVar 3) (mC (.str "cut"))))) (sRet (toC (mTup (mCons (frz (mCall m_behind_cut (mCons (mVar 0) (mCons (mVar 1) (mCons (frz (mOp gIx (frz (mFld [2] "indexes" (mVar 0))) (frz (mOp gIx (mVar 2) (mC (.int 1)))))) mNil))))) (mCons (mC (.str "done")) mNil))))) sNx)
    (sSeq (sIf (mTest (frz (mOp gEq (mVar 3) (mC (.str "line"))))) (sRet (toC (mTup (mCons (frz (mCall m_behind_line (mCons (mVar 0) (mCons (mVar 1) (mCons (frz (mOp gIx (frz (mFld [2] "indexes" (mVar 0))) (frz (mOp gIx (mVar 2) (mC (.int 1)))))) mNil))))) (mCons (mC (.str "done")) mNil))))) sNx)
    (sSeq (sIf (mTest (frz (mOp gEq (mVar 3) (mC (.str "top"))))) (sRet (toC (mTup (mCons (frz (mCall m_behind_top (mCons (mVar 1) (mCons (frz (mOp gIx (mVar 2) (mC (.int 1)))) mNil)))) (mCons (mC (.str "done")) mNil))))) sNx)
    (sRet (toC (mTup (mCons (frz (mCall m_behind_loss (mCons (mVar 1) mNil))) (mCons (mC (.str "done")) mNil)))))))))))
variable {P : Program} {w : World} {K : PySem.W.Frag} {mg : Str → Option Value} {base : Heap}
theorem ok_moved (T : Txt K mg) : FnOk P w K mg base CX0 5 T.a_moved T.d_moved ["layout", "state", "event"] (spP T.W m_moved) := by
  have nd := sc_moved.nd
  refine T.F_moved.ok sc_moved (fun vs H Q E h => spP0_len (E := E) h) (fun cdv A outer s H vs Q E hr h => ?_)
  have hu := hu_of hr
  have hu65 := hu65_of hr
  exact ⟨_, (pss_cons (ps_set (i := 3) nd rfl (by first | exact Or.inl rfl | exact Or.inr rfl) (pe_ix (ix_D (K := K) rfl hu) (pv 2) (pe_int) (fun _ _ => rfl)))
      (pss_cons (ps_if (pt_cmpR (op_eqK (K := K) rfl hr.units) (pv 3) (pe_str) (nomark _)) (pss_one (ps_ret (pe_call (ok_behind_payment T) (hr.mono (by decide)) rfl T.g_behind_payment T.k_behind_payment T.b_behind_payment .nil pass0 (pa_cons (pv 0) (pa_cons (pv 1) (pa_cons (pe_ix (ix_D (K := K) rfl hu) (pe_fldK (K := K) rfl (pv 0) rfl) (pe_ix (ix_D (K := K) rfl hu) (pv 2) (pe_int) (fun _ _ => rfl)) (fun _ _ => rfl)) (pa_cons (pe_ix (ix_D (K := K) rfl hu) (pv 2) (pe_int) (fun _ _ => rfl)) pa_nil))))))) pss_nil)
      (pss_cons (ps_if (pt_cmpR (op_eqK (K := K) rfl hr.units) (pv 3) (pe_str) (nomark _)) (pss_one (ps_ret (pe_tup (pa_cons (pe_call (ok_behind_cut T) (hr.mono (by decide)) rfl T.g_behind_cut T.k_behind_cut T.b_behind_cut .nil pass0 (pa_cons (pv 0) (pa_cons (pv 1) (pa_cons (pe_ix (ix_D (K := K) rfl hu) (pe_fldK (K := K) rfl (pv 0) rfl) (pe_ix (ix_D (K := K) rfl hu) (pv 2) (pe_int) (fun _ _ => rfl)) (fun _ _ => rfl)) pa_nil)))) (pa_cons (pe_str) pa_nil))))) pss_nil)
      (pss_cons (ps_if (pt_cmpR (op_eqK (K := K) rfl hr.units) (pv 3) (pe_str) (nomark _)) (pss_one (ps_ret (pe_tup (pa_cons (pe_call (ok_behind_line T) (hr.mono (by decide)) rfl T.g_behind_line T.k_behind_line T.b_behind_line .nil pass0 (pa_cons (pv 0) (pa_cons (pv 1) (pa_cons (pe_ix (ix_D (K := K) rfl hu) (pe_fldK (K := K) rfl (pv 0) rfl) (pe_ix (ix_D (K := K) rfl hu) (pv 2) (pe_int) (fun _ _ => rfl)) (fun _ _ => rfl)) pa_nil)))) (pa_cons (pe_str) pa_nil))))) pss_nil)
      (pss_cons (ps_if (pt_cmpR (op_eqK (K := K) rfl hr.units) (pv 3) (pe_str) (nomark _)) (pss_one (ps_ret (pe_tup (pa_cons (pe_call (ok_behind_top T) (hr.mono (by decide)) rfl T.g_behind_top T.k_behind_top T.b_behind_top .nil pass0 (pa_cons (pv 1) (pa_cons (pe_ix (ix_D (K := K) rfl hu) (pv 2) (pe_int) (fun _ _ => rfl)) pa_nil))) (pa_cons (pe_str) pa_nil))))) pss_nil)
      (pss_one (ps_ret (pe_tup (pa_cons (pe_call (ok_behind_loss T) (hr.mono (by decide)) rfl T.g_behind_loss T.k_behind_loss T.b_behind_loss .nil pass0 (pa_cons (pv 1) pa_nil)) (pa_cons (pe_str) pa_nil)))))))))), fnP0 rfl (ds_seq (ds_set (i := 3) (de_op d2_ix dv_var dv_int))
      (ds_seq (ds_if (dt_test (DE.dv (de_op d2_eq dv_var dv_str))) (ds_ret (de_call (da_cons dv_var (da_cons dv_var (da_cons (DE.dv (de_op d2_ix (DE.dv (de_fld (cs := [2]) (List.forall_mem_cons.mpr ⟨⟨T.cl_Layout, T.n_Layout_indexes⟩, List.forall_mem_nil _⟩) dv_var)) (DE.dv (de_op d2_ix dv_var dv_int)))) (da_cons (DE.dv (de_op d2_ix dv_var dv_int)) da_nil)))))) ds_next)
      (ds_seq (ds_if (dt_test (DE.dv (de_op d2_eq dv_var dv_str))) (ds_ret (DV.de (dv_tup (da_cons (DE.dv (de_call (da_cons dv_var (da_cons dv_var (da_cons (DE.dv (de_op d2_ix (DE.dv (de_fld (cs := [2]) (List.forall_mem_cons.mpr ⟨⟨T.cl_Layout, T.n_Layout_indexes⟩, List.forall_mem_nil _⟩) dv_var)) (DE.dv (de_op d2_ix dv_var dv_int)))) da_nil))))) (da_cons dv_str da_nil))))) ds_next)
      (ds_seq (ds_if (dt_test (DE.dv (de_op d2_eq dv_var dv_str))) (ds_ret (DV.de (dv_tup (da_cons (DE.dv (de_call (da_cons dv_var (da_cons dv_var (da_cons (DE.dv (de_op d2_ix (DE.dv (de_fld (cs := [2]) (List.forall_mem_cons.mpr ⟨⟨T.cl_Layout, T.n_Layout_indexes⟩, List.forall_mem_nil _⟩) dv_var)) (DE.dv (de_op d2_ix dv_var dv_int)))) da_nil))))) (da_cons dv_str da_nil))))) ds_next)
      (ds_seq (ds_if (dt_test (DE.dv (de_op d2_eq dv_var dv_str))) (ds_ret (DV.de (dv_tup (da_cons (DE.dv (de_call (da_cons dv_var (da_cons (DE.dv (de_op d2_ix dv_var dv_int)) da_nil)))) (da_cons dv_str da_nil))))) ds_next)
      (ds_ret (DV.de (dv_tup (da_cons (DE.dv (de_call (da_cons dv_var da_nil))) (da_cons dv_str da_nil)))))))))) h⟩
end
end Toy
namespace Toy
open PySem PySem.Spec PyProof.Rows L2 Kx
section
open Dm
def m_steps_from : Dm.Fn := mFn0 2 6 ((sSeq (sSet 2 (mLst mNil))
    (sSeq (sFor (itSeq (frz (mFld [2] "plain_events" (mVar 0)))) (tgN 3) (sIf (mTest (frz (mCall m_can_follow (mCons (mVar 0) (mCons (mVar 1) (mCons (mVar 3) mNil)))))) (sSeq (sUn (unD 2 (tgCons (tgN 4) (tgCons (tgN 5) tgNil))) (frz (mCall m_moved (mCons (mVar 0) (mCons (mVar 1) (mCons (mVar 3) mNil))))))
    (sApp 2 (mTup (mCons (mVar 3) (mCons (mVar 5) (mCons (mVar 4) mNil)))))) sNx))
    (sRet (mMove 2)))))
variable {P : Program} {w : World} {K : PySem.W.Frag} {mg : Str → Option Value} {base : Heap}
theorem ok_steps_from (T : Txt K mg) : FnOk P w K mg base CX0 6 T.a_steps_from T.d_steps_from ["layout", "state"] (spP T.W m_steps_from) := by
  have nd := sc_steps_from.nd
  refine T.F_steps_from.ok sc_steps_from (fun vs H Q E h => spP0_len (E := E) h) (fun cdv A outer s H vs Q E hr h => ?_)
  have hu := hu_of hr
  have hu65 := hu65_of hr
  exact ⟨_, (pss_cons (ps_set (i := 2) nd rfl (by first | exact Or.inl rfl | exact Or.inr rfl) (pe_lst pa_nil))
      (pss_cons (ps_for PassesOwn.never rfl (pi_seq (K := K) rfl (pe_fldK (K := K) rfl (pv 0) rfl)) (pg_name (i := 3) nd rfl (by first | exact Or.inl rfl | exact Or.inr rfl)) (pss_one (ps_if (pt_val (pe_call (ok_can_follow T) (hr.mono (by decide)) rfl T.g_can_follow T.k_can_follow T.b_can_follow .nil pass0 (pa_cons (pv 0) (pa_cons (pv 1) (pa_cons (pv 3) pa_nil))))) (pss_cons (ps_asg (pe_call (ok_moved T) (hr.mono (by decide)) rfl T.g_moved T.k_moved T.b_moved .nil pass0 (pa_cons (pv 0) (pa_cons (pv 1) (pa_cons (pv 3) pa_nil)))) (pg_un (K := K) rfl 2 rfl (pgs_cons (pg_name (i := 4) nd rfl (by first | exact Or.inl rfl | exact Or.inr rfl)) (pgs_cons (pg_name (i := 5) nd rfl (by first | exact Or.inl rfl | exact Or.inr rfl)) pgs_nil))))
      (pss_one (ps_expr (pe_bm PySem.F.plainAttrs_list PySem.F.slot_list_append PySem.F.type_list_append mt_append (pv 2) (pa_cons (pe_tup (pa_cons (pv 3) (pa_cons (pv 5) (pa_cons (pv 4) pa_nil)))) pa_nil))))) pss_nil)))
      (pss_one (ps_ret (pv 2))))), fnP0 rfl (ds_seq (ds_set (i := 2) (de_lst da_nil))
      (ds_seq (ds_for (di_seq (DE.dv (de_fld (cs := [2]) (List.forall_mem_cons.mpr ⟨⟨T.cl_Layout, T.n_Layout_plain_events⟩, List.forall_mem_nil _⟩) dv_var))) dg_nameG (ds_if (dt_B (DE.dv (de_call (da_cons dv_var (da_cons dv_var (da_cons dv_var da_nil)))))) (ds_seq (ds_un (DE.dv (de_call (da_cons dv_var (da_cons dv_var (da_cons dv_var da_nil))))) (dg_un (dgs_consG dg_nameG (dgs_consG dg_nameG dgs_nilG))))
      (ds_app (i := 2) (dv_tup (da_cons dv_var (da_cons dv_var (da_cons dv_var da_nil)))))) ds_next))
      (ds_ret de_move))) h⟩
end
end Toy
namespace Toy
open PySem PySem.Spec PyProof.Rows L2 Kx
section
open Dm
def m_steps : Dm.Fn := mFn0 2 2 ((sRet (mCall m_steps_from (mCons (frz (mMake 2 m_Layout_init (mCons (mVar 0) mNil))) (mCons (mVar 1) mNil)))))
variable {P : Program} {w : World} {K : PySem.W.Frag} {mg : Str → Option Value} {base : Heap}
theorem ok_steps (T : Txt K mg) : FnOk P w K mg base CX0 7 T.a_steps T.d_steps ["town", "state"] (spP T.W m_steps) := by
  have nd := sc_steps.nd
  refine T.F_steps.ok sc_steps (fun vs H Q E h => spP0_len (E := E) h) (fun cdv A outer s H vs Q E hr h => ?_)
  have hu := hu_of hr
  have hu65 := hu65_of hr
  exact ⟨_, (pss_one (ps_ret (pe_call (ok_steps_from T) (hr.mono (by decide)) rfl T.g_steps_from T.k_steps_from T.b_steps_from .nil pass0 (pa_cons (pe_make T.mk_Layout (ok_Layout_init T) (hr.mono (by decide)) rfl T.g_Layout T.b_Layout_init .nil pass0 (pa_cons (pv 0) pa_nil)) (pa_cons (pv 1) pa_nil))))), fnP0 rfl (ds_ret (de_call (da_cons (DE.dv (de_make (c := 2) rfl (da_cons dv_var da_nil))) (da_cons dv_var da_nil)))) h⟩
end
end Toy
namespace Toy
open PySem PySem.Spec PyProof.Rows L2 Kx
section
open Dm
def m_law : Dm.Fn := mFn0 1 8 ((sSeq (sFor (itRng1 (mCons (frz (mCB gMax (mCons (mC (.int 1)) (mCons (frz (mCB gMin (mCons (frz (mCB gLen (mCons (mVar 0) mNil))) (mCons (mC (.int 3)) mNil)))) mNil)))) mNil)) (tgN 1) (sSeq (sSet 2 (mCall m__law_pool (mCons (mVar 0) (mCons (mVar 1) mNil))))
    (sSeq (sSet 3 (mCallI m__law_plan 2 (mCons (mC (.int 3)) (mCons (mC (.int 3)) mNil))))
    (sSeq (sPar 4 5 (mCons (frz (mCall m__law_made (mCons (mVar 3) mNil))) (mCons (frz (mCall m__law_first (mCons (mVar 3) mNil))) mNil)))
    (sFor (itRng1 (mCons (mC (.int 40)) mNil)) (tgN 6) (sSeq (sSet 7 (mCall m__law_steps (mCons (mVar 3) (mCons (mVar 5) mNil))))
    (sSeq (sIf (mTest (frz (mOp gNe (frz (mCall m_steps (mCons (mVar 4) (mCons (mVar 5) mNil)))) (mVar 7)))) (sRet (toC (mC (.bl false)))) sNx)
    (sSet 5 (mOp gIx (frz (mCallI m__law_pick 2 (mCons (mVar 7) mNil))) (mC (.int 2)))))))))))
    (sRet (toC (mC (.bl true))))))
variable {P : Program} {w : World} {K : PySem.W.Frag} {mg : Str → Option Value} {base : Heap}
theorem ok_law (T : Txt K mg) : FnOk P w K mg base CX0 8 T.a_law T.d_law ["_law_script"] (spP T.W m_law) := by
  have nd := sc_law.nd
  refine T.F_law.ok sc_law (fun vs H Q E h => spP0_len (E := E) h) (fun cdv A outer s H vs Q E hr h => ?_)
  have hu := hu_of hr
  have hu65 := hu65_of hr
  exact ⟨_, (pss_cons (ps_for PassesOwn.never rfl (pi_range1 (by rfl) T.no_range (pa_cons (pe_callB (call_maxA (K := K) rfl rfl) (by rfl) T.no_max (by decide +kernel) (pa_cons (pe_int) (pa_cons (pe_callB (call_minA (K := K) rfl rfl) (by rfl) T.no_min (by decide +kernel) (pa_cons (pe_callB (call_lenA (K := K) rfl) (by rfl) T.no_len (by decide +kernel) (pa_cons (pv 0) pa_nil)) (pa_cons (pe_int) pa_nil))) pa_nil))) pa_nil)) (pg_name (i := 1) nd rfl (by first | exact Or.inl rfl | exact Or.inr rfl)) (pss_cons (ps_set (i := 2) nd rfl (by first | exact Or.inl rfl | exact Or.inr rfl) (pe_call (ok__law_pool T) (hr.mono (by decide)) rfl T.g__law_pool T.k__law_pool T.b__law_pool .nil pass0 (pa_cons (pv 0) (pa_cons (pv 1) pa_nil))))
      (pss_cons (ps_set (i := 3) nd rfl (by first | exact Or.inl rfl | exact Or.inr rfl) (pe_call (ok__law_plan T) (hr.mono (by decide)) rfl T.g__law_plan T.k__law_plan T.b__law_plan .nil pass0 (pa_cons (pv 2) (pa_cons (pe_int) (pa_cons (pe_int) pa_nil)))))
      (pss_cons (ps_par (i := 4) (j := 5) (by rfl) nd rfl rfl (by decide) rfl rfl (pa_cons (pe_call (ok__law_made T) (hr.mono (by decide)) rfl T.g__law_made T.k__law_made T.b__law_made .nil pass0 (pa_cons (pv 3) pa_nil)) (pa_cons (pe_call (ok__law_first T) (hr.mono (by decide)) rfl T.g__law_first T.k__law_first T.b__law_first .nil pass0 (pa_cons (pv 3) pa_nil)) pa_nil)) (by rfl))
      (pss_one (ps_for PassesOwn.never rfl (pi_range1 (by rfl) T.no_range (pa_cons (pe_int) pa_nil)) (pg_name (i := 6) nd rfl (by first | exact Or.inl rfl | exact Or.inr rfl)) (pss_cons (ps_set (i := 7) nd rfl (by first | exact Or.inl rfl | exact Or.inr rfl) (pe_call (ok__law_steps T) (hr.mono (by decide)) rfl T.g__law_steps T.k__law_steps T.b__law_steps .nil pass0 (pa_cons (pv 3) (pa_cons (pv 5) pa_nil))))
      (pss_cons (ps_if (pt_cmpR (op_neK (K := K) rfl hr.units) (pe_call (ok_steps T) (hr.mono (by decide)) rfl T.g_steps T.k_steps T.b_steps .nil pass0 (pa_cons (pv 4) (pa_cons (pv 5) pa_nil))) (pv 7) (nomark _)) (pss_one (ps_ret (pe_bl))) pss_nil)
      (pss_one (ps_set (i := 5) nd rfl (by first | exact Or.inl rfl | exact Or.inr rfl) (pe_ix (ix_D (K := K) rfl hu) (pe_call (ok__law_pick T) (hr.mono (by decide)) rfl T.g__law_pick T.k__law_pick T.b__law_pick .nil pass0 (pa_cons (pv 2) (pa_cons (pv 7) pa_nil))) (pe_int) (fun _ _ => rfl))))))))))))
      (pss_one (ps_ret (pe_bl)))), fnP0 rfl (ds_seq (ds_for (di_rng1 (da_cons (DE.dv (de_cb db_max (da_cons dv_int (da_cons (DE.dv (de_cb db_min (da_cons (DE.dv (de_cb db_len (da_cons dv_var da_nil))) (da_cons dv_int da_nil)))) da_nil)))) da_nil)) dg_nameG (ds_seq (ds_set (i := 2) (de_call (da_cons dv_var (da_cons dv_var da_nil))))
      (ds_seq (ds_set (i := 3) (de_callI (i := 2) (da_cons dv_int (da_cons dv_int da_nil))))
      (ds_seq (ds_par (da_cons (DE.dv (de_call (da_cons dv_var da_nil))) (da_cons (DE.dv (de_call (da_cons dv_var da_nil))) da_nil)))
      (ds_for (di_rng1 (da_cons dv_int da_nil)) dg_nameG (ds_seq (ds_set (i := 7) (de_call (da_cons dv_var (da_cons dv_var da_nil))))
      (ds_seq (ds_if (dt_test (DE.dv (de_op d2_ne (DE.dv (de_call (da_cons dv_var (da_cons dv_var da_nil)))) dv_var))) (ds_ret (DV.de dv_bl)) ds_next)
      (ds_set (i := 5) (de_op d2_ix (DE.dv (de_callI (i := 2) (da_cons dv_var da_nil))) dv_int)))))))))
      (ds_ret (DV.de dv_bl))) h⟩
end
end Toy
namespace Toy
open PySem PySem.Spec PyProof.Rows L2 Kx Dm
local macro_rules | `(tactic| tm_at "dj") => `(tactic| first | (simp; done) | (simp; omega) | omega)
/-! ### a state of the town, the layout, events: kinds -/
structure St where
  lines : List Bool
  untold : List Int
  heard : List Bool
  rem : Int
  left : Int
  lost : Bool
  tops : Int
def bbs (xs : List Bool) : D := .tup (xs.map .bl)
def iis (xs : List Int) : D := .tup (xs.map .int)
def nns (g : List Nat) : D := .tup (g.map fun (i : Nat) => D.int (i : Nat))
def St.D (s : St) : D := .tup [bbs s.lines, iis s.untold, bbs s.heard, .int s.rem, .int s.left, .bl s.lost, .int s.tops]
structure Lay where
  names : List Str
  limits : List Int
  heeding : List Bool
  groups : List (List Nat)
  kind : Str
  most : Int
  numbered : Bool
  events : List D
def idxs (names : List Str) : List D := (List.range names.length).map fun (i : Nat) => D.int (i : Nat)
def layNs : List Str := ["indexes", "limits", "heeding", "groups", "kind", "top_remembered", "numbered", "plain_events"]
def Lay.D (L : Lay) : D := .ins 2 layNs [.dct 0 (L.names.map .str) (idxs L.names), iis L.limits, bbs L.heeding, .tup (L.groups.map nns), .str L.kind, .int L.most, .bl L.numbered, .lst L.events]
section
variable (L : Lay)
@[simp] theorem lay_places : gFld [2] "indexes" L.D = some (.val (.dct 0 (L.names.map .str) (idxs L.names))) := by simp [Lay.D, layNs]
@[simp] theorem lay_limits : gFld [2] "limits" L.D = some (.val (iis L.limits)) := by simp [Lay.D, layNs]
@[simp] theorem lay_heeding : gFld [2] "heeding" L.D = some (.val (bbs L.heeding)) := by simp [Lay.D, layNs]
@[simp] theorem lay_groups : gFld [2] "groups" L.D = some (.val (.tup (L.groups.map nns))) := by simp [Lay.D, layNs]
@[simp] theorem lay_kind : gFld [2] "kind" L.D = some (.val (.str L.kind)) := by simp [Lay.D, layNs]
@[simp] theorem lay_most : gFld [2] "top_remembered" L.D = some (.val (.int L.most)) := by simp [Lay.D, layNs]
@[simp] theorem lay_events : gFld [2] "plain_events" L.D = some (.val (.lst L.events)) := by simp [Lay.D, layNs]
end
@[simp] theorem g_ixInts {xs : List Int} {i : Int} : gIx (iis xs) (.int i) = (atI xs i).map fun z => .val (.int z) := by
  unfold iis
  simp only [g_ixT]
  unfold atI
  rw [List.length_map]
  cases ixN xs.length i with
  | none => rfl
  | some j =>
    show ((xs.map D.int)[j]?).map _ = (xs[j]?).map _
    rw [List.getElem?_map]
    cases xs[j]? <;> rfl
@[simp] theorem g_ixBls {xs : List Bool} {i : Int} : gIx (bbs xs) (.int i) = (atI xs i).map fun z => .val (.bl z) := by
  unfold bbs
  simp only [g_ixT]
  unfold atI
  rw [List.length_map]
  cases ixN xs.length i with
  | none => rfl
  | some j =>
    show ((xs.map D.bl)[j]?).map _ = (xs[j]?).map _
    rw [List.getElem?_map]
    cases xs[j]? <;> rfl
@[simp] theorem g_ixNats {gs : List (List Nat)} {i : Int} : gIx (.tup (gs.map nns)) (.int i) = (atI gs i).map fun z => .val (nns z) := by
  simp only [g_ixT]
  unfold atI
  rw [List.length_map]
  cases ixN gs.length i with
  | none => rfl
  | some j =>
    show ((gs.map nns)[j]?).map _ = (gs[j]?).map _
    rw [List.getElem?_map]
    cases gs[j]? <;> rfl
@[simp] theorem kSeq_nats {g : List Nat} {ρ : DEnv} : kSeq (nns g) ρ = some (.ok (g.map fun (i : Nat) => D.int (i : Nat)) ρ) := .trans rfl rfl
theorem set_cut {α : Type} {xs : List α} {n : Nat} {d : α} (h : n < xs.length) : List.take n xs ++ d :: List.drop (n + 1) xs = xs.set n d := by
  rw [List.set_eq_take_append_cons_drop, if_pos h]
theorem v_with_item {xs : List D} {n : Nat} {d : D} (h : n < xs.length) (hl : xs.length ≤ 1000) : m_with_item [.tup xs, .int n, d] = some (.ok (.val (.tup (xs.set n d)))) := by
  simp (disch := tm_at "dj") [m_with_item, set_cut h]
@[simp] theorem v_with_item_b {xs : List Bool} {n : Nat} {b : Bool} (h : n < xs.length) (hl : xs.length ≤ 1000) : m_with_item [bbs xs, .int n, .bl b] = some (.ok (.val (bbs (xs.set n b)))) := by
  unfold bbs
  rw [v_with_item (by rw [List.length_map]; exact h) (by rw [List.length_map]; exact hl), List.map_set]
@[simp] theorem v_with_item_i {xs : List Int} {n : Nat} {b : Int} (h : n < xs.length) (hl : xs.length ≤ 1000) : m_with_item [iis xs, .int n, .int b] = some (.ok (.val (iis (xs.set n b)))) := by
  unfold iis
  rw [v_with_item (by rw [List.length_map]; exact h) (by rw [List.length_map]; exact hl), List.map_set]
@[simp] theorem v_cut_to_tops {i j : Int} : m_cut_to_tops [.int i, .int j] = some (.ok (.val (.int (if -j < i then i else -j)))) := by
  simp [m_cut_to_tops]
@[simp] theorem v_is_stopped {i : Int} {b : Bool} : m_is_stopped [.int i, .bl b] = some (.ok (.val (.bl (b || decide (i ≤ 0))))) := by
  simp [m_is_stopped]
@[simp] theorem v_to_remember {L : Lay} {i : Int} : m_to_remember [L.D, .int i] = some (.ok (.val (.int (if L.kind = "nothing" then 0 else if L.kind = "sum" then i else 1)))) := by
  simp [m_to_remember]
def setAll (g : List Nat) (b : Bool) (xs : List Bool) : List Bool := xs.zipIdx.map fun p => if p.2 ∈ g then b else p.1
theorem in_nns {g : List Nat} {i : Nat} : gIn (.int i) (nns g) = some (.val (.bl (decide (i ∈ g)))) := by
  have h1 : (g.map fun (i : Nat) => D.int (i : Nat)).all isF = true := by simp [isF]
  have h2 : ((g.map fun (i : Nat) => D.int (i : Nat)).any fun d => eqF d (.int i)) = decide (i ∈ g) := by
    induction g with
    | nil => rfl
    | cons x g ih =>
      rw [List.map_cons, List.any_cons, ih (by simp [isF])]
      simp only [eqF, List.mem_cons]
      by_cases e : i = x
      · subst e; simp
      · have : (((x : Nat) : Int) == ((i : Nat) : Int)) = false := by simp; omega
        rw [this]; simp [e]
  show (memD _ _ _).map _ = _
  unfold memD
  rw [if_pos ⟨rfl, h1⟩, h2]
  rfl
@[simp] theorem v_with_group {xs : List Bool} {g : List Nat} {b : Bool} (hl : xs.length ≤ 1000) : m_with_group [bbs xs, nns g, .bl b] = some (.ok (.val (bbs (setAll g b xs)))) := by
  have e : enumD (xs.map D.bl) = xs.zipIdx.map fun p => D.tup [.int (p.2 : Nat), .bl p.1] := by
    unfold enumD
    rw [List.zipIdx_map, List.map_map]
    rfl
  simp [m_with_group, bbs, e]
  rw [lc_map (f := fun p => D.bl (if p.2 ∈ g then b else p.1))]
  · simp [setAll, Function.comp_def]
  · intro p hp
    exact ⟨_, rfl, rfl, by simp [in_nns]⟩
  · simpa using by omega
end Toy

namespace Toy
open PySem PySem.Spec PyProof.Rows L2 Kx Dm
local macro_rules | `(tactic| tm_at "dj") => `(tactic| first | (simp; done) | (simp; omega) | omega)
@[simp] theorem g_anyF {α : Type} {g : List α} {f : α → Bool} : gAny [.lst (g.map fun i => .bl (f i))] = some (.val (.bl (g.any f))) := by
  have := @g_any (g.map f)
  rw [List.map_map] at this
  rw [show (g.map fun i => D.bl (f i)) = g.map (D.bl ∘ f) from rfl, this]
  simp [List.any_map, Function.comp_def]
@[simp] theorem g_sumF {α : Type} {g : List α} {f : α → Int} : gSum [.lst (g.map fun i => .int (f i))] = some (.val (.int (g.map f).sum)) := by
  have := @g_sum (g.map f)
  rw [List.map_map] at this
  rw [show (g.map fun i => D.int (f i)) = g.map (D.int ∘ f) from rfl, this]
def St.ok (n : Nat) (s : St) : Prop := s.lines.length = n ∧ s.untold.length = n ∧ s.heard.length = n
structure Lay.ok (L : Lay) (n : Nat) : Prop where
  big : n ≤ 1000
  names : L.names.length = n
  limits : L.limits.length = n
  heeding : L.heeding.length = n
  groups : L.groups.length = n
  gn : ∀ g ∈ L.groups, g.length ≤ 1000 ∧ ∀ i ∈ g, i < n
def Lay.gr (L : Lay) (k : Nat) : List Nat := L.groups.getD k []
def St.anyL (s : St) (g : List Nat) : Bool := g.any fun i => s.lines.getD i false
def St.sumU (s : St) (g : List Nat) : Int := (g.map fun i => s.untold.getD i 0).sum
def St.stopped (s : St) : Bool := s.lost || decide (s.left ≤ 0)
def Lay.takes (L : Lay) (s : St) (k : Nat) : Bool := if s.anyL (L.gr k) = true then s.stopped else s.heard.getD k false
def Lay.cost (L : Lay) (u : Int) : Int := if L.kind = "nothing" then 0 else if L.kind = "sum" then u else 1
def Lay.word (L : Lay) (s : St) (k : Nat) (u : Int) : Str :=
  if s.lines.getD k false = true then (if s.lost = true ∨ s.left < u then "house" else "taken")
  else if L.heeding.getD k false = true ∧ L.takes s k = true then "list"
  else if L.limits.getD k 0 < s.sumU (L.gr k) + u then "limit"
  else if L.most < s.rem + L.cost u then "memory" else "taken"
def Lay.pay (L : Lay) (s : St) (k : Nat) (u : Int) : St :=
  if L.word s k u ≠ "taken" then s
  else if s.lines.getD k false = true then { s with rem := 0, left := s.left - u }
  else { s with untold := s.untold.set k (s.untold.getD k 0 + u), rem := s.rem + L.cost u }
def Lay.cut (L : Lay) (s : St) (k : Nat) : St :=
  { s with lines := s.lines.set k false, heard := if ({ s with lines := s.lines.set k false } : St).anyL (L.gr k) = true then s.heard else setAll (L.gr k) s.stopped s.heard }
def toTops (i j : Int) : Int := if -j < i then i else -j
def Lay.line (L : Lay) (s : St) (k : Nat) : St :=
  { s with lines := s.lines.set k true, untold := s.untold.set k 0, heard := setAll (L.gr k) false s.heard, left := toTops (s.left - s.untold.getD k 0) s.tops }
def St.top (s : St) (u : Int) : St := { s with left := s.left + u, tops := s.tops - u }
def St.loss (s : St) : St := { s with left := toTops s.left 0, lost := true, tops := 0 }
theorem gr_at {L : Lay} {n k : Nat} (h : L.ok n) (hk : k < n) : L.groups[k]? = some (L.gr k) := by
  have := h.groups
  unfold Lay.gr
  rw [List.getElem?_eq_getElem (by omega), List.getD_eq_getElem?_getD, List.getElem?_eq_getElem (by omega)]
  rfl
theorem gr_mem {L : Lay} {n k : Nat} (h : L.ok n) (hk : k < n) : (L.gr k).length ≤ 1000 ∧ ∀ i ∈ L.gr k, i < n := by
  have := gr_at h hk
  exact h.gn _ (List.mem_of_getElem? this)
theorem b_at {xs : List Bool} {k : Nat} (h : k < xs.length) : xs[k]? = some (xs.getD k false) := by
  rw [List.getD_eq_getElem?_getD, List.getElem?_eq_getElem h]; rfl
theorem i_at {xs : List Int} {k : Nat} (h : k < xs.length) : xs[k]? = some (xs.getD k 0) := by
  rw [List.getD_eq_getElem?_getD, List.getElem?_eq_getElem h]; rfl
section
variable {L : Lay} {s : St} {n k : Nat} {u : Int}
theorem v_takes (h : L.ok n) (hs : s.ok n) (hk : k < n) : m_takes_for_stopped [L.D, s.D, .int k] = some (.ok (.val (.bl (L.takes s k)))) := by
  obtain ⟨l1, l2, l3⟩ := hs
  obtain ⟨g1, g2⟩ := gr_mem h hk
  simp [m_takes_for_stopped, St.D, gr_at h hk]
  rw [lc_map (f := fun i => D.bl (s.lines.getD i false))]
  · simp [b_at (l3 ▸ hk), -List.getD_eq_getElem?_getD, Lay.takes, St.anyL, St.stopped]
  · intro i hi
    exact ⟨_, rfl, rfl, by simp [b_at (l1 ▸ g2 i hi), -List.getD_eq_getElem?_getD]⟩
  · exact Nat.le_trans g1 (by decide)
end
end Toy

namespace Toy
open PySem PySem.Spec PyProof.Rows L2 Kx Dm
local macro_rules | `(tactic| tm_at "dj") => `(tactic| first | (simp; done) | (simp; omega) | omega)
section
variable {L : Lay} {s : St} {n k : Nat} {u : Int}
@[simp] theorem sd_get (s : St) : s.D = .tup [bbs s.lines, iis s.untold, bbs s.heard, .int s.rem, .int s.left, .bl s.lost, .int s.tops] := .trans rfl rfl
theorem v_word (h : L.ok n) (hs : s.ok n) (hk : k < n) : m_word_of_payment [L.D, s.D, .int k, .int u] = some (.ok (.val (.str (L.word s k u)))) := by
  have vt := v_takes h hs hk
  obtain ⟨l1, l2, l3⟩ := hs
  obtain ⟨g1, g2⟩ := gr_mem h hk
  rw [sd_get] at vt ⊢
  have a1 := b_at (xs := s.lines) (l1 ▸ hk)
  have a2 := b_at (xs := L.heeding) (h.heeding ▸ hk)
  have a3 := i_at (xs := L.limits) (h.limits ▸ hk)
  simp [m_word_of_payment, gr_at h hk, -List.getD_eq_getElem?_getD, a1, a2, a3, vt]
  rw [lc_map (f := fun i => D.int (s.untold.getD i 0))]
  · simp [-List.getD_eq_getElem?_getD, a3]
    unfold Lay.word St.sumU Lay.cost
    simp [-List.getD_eq_getElem?_getD]
  · intro i hi
    exact ⟨_, rfl, rfl, by simp [i_at (l2 ▸ g2 i hi), -List.getD_eq_getElem?_getD]⟩
  · exact Nat.le_trans g1 (by decide)
theorem v_pay (h : L.ok n) (hs : s.ok n) (hk : k < n) : m_behind_payment [L.D, s.D, .int k, .int u] = some (.ok (.val (.tup [(L.pay s k u).D, .str (L.word s k u)]))) := by
  have vw := v_word (u := u) h hs hk
  obtain ⟨l1, l2, l3⟩ := hs
  have hb := h.big
  rw [sd_get] at vw
  unfold Lay.pay
  simp (disch := tm_at "dj") [m_behind_payment, vw, Lay.cost]
  by_cases c1 : L.word s k u = "taken"
  · by_cases c2 : s.lines[k] = true
    · simp (disch := tm_at "dj") [c1, c2]
    · simp (disch := tm_at "dj") [c1, c2]
  · simp [c1]
theorem v_cut (h : L.ok n) (hs : s.ok n) (hk : k < n) : m_behind_cut [L.D, s.D, .int k] = some (.ok (.val (L.cut s k).D)) := by
  obtain ⟨l1, l2, l3⟩ := hs
  have hb := h.big
  obtain ⟨g1, g2⟩ := gr_mem h hk
  simp (disch := tm_at "dj") [m_behind_cut, gr_at h hk, -List.getD_eq_getElem?_getD]
  rw [lc_map (f := fun i => D.bl ((s.lines.set k false).getD i false))]
  · simp (disch := tm_at "dj") only [e_kLc2, e_bnd, e_kFrz2, e_kCons, e_mNil, e_kCons2, e_kCB, g_anyF, e_up, e_kFrz1, e_kTest, e_kNot, e_bindS, i_kSIf]
    cases c1 : ((L.gr k).any fun i => (s.lines.set k false).getD i false)
    · simp (disch := tm_at "dj") [-List.getD_eq_getElem?_getD, Lay.cut, St.anyL, St.stopped, c1]
    · simp (disch := tm_at "dj") [-List.getD_eq_getElem?_getD, Lay.cut, St.anyL, St.stopped, c1]
  · intro i hi
    have := b_at (xs := s.lines.set k false) (k := i) (by rw [List.length_set]; exact l1 ▸ g2 i hi)
    exact ⟨_, rfl, rfl, by simp [this, -List.getD_eq_getElem?_getD, -List.getElem?_set]⟩
  · exact Nat.le_trans g1 (by decide)
theorem v_line (h : L.ok n) (hs : s.ok n) (hk : k < n) : m_behind_line [L.D, s.D, .int k] = some (.ok (.val (L.line s k).D)) := by
  obtain ⟨l1, l2, l3⟩ := hs
  have hb := h.big
  simp (disch := tm_at "dj") [m_behind_line, gr_at h hk, Lay.line, toTops]
theorem v_top : m_behind_top [s.D, .int u] = some (.ok (.val (s.top u).D)) := by
  simp [m_behind_top, St.top]
theorem v_loss : m_behind_loss [s.D] = some (.ok (.val s.loss.D)) := by
  simp [m_behind_loss, St.loss, toTops]
end
end Toy

namespace Toy
open PySem PySem.Spec PyProof.Rows L2 Kx Dm
local macro_rules | `(tactic| tm_at "dj") => `(tactic| first | (simp; done) | (simp; omega) | omega)
inductive Ev where
  | cut (k : Nat)
  | line (k : Nat)
  | pay (k : Nat) (u : Int)
  | top (u : Int)
  | lose
def nm (names : List Str) (k : Nat) : Str := names.getD k Str.empty
def Ev.D (names : List Str) : Ev → Dm.D
  | .cut k => .tup [.str "cut", .str (nm names k)]
  | .line k => .tup [.str "line", .str (nm names k)]
  | .pay k u => .tup [.str "pay", .str (nm names k), .int u]
  | .top u => .tup [.str "top", .int u]
  | .lose => .tup [.str "lose"]
def Ev.ok (n : Nat) : Ev → Prop
  | .cut k => k < n
  | .line k => k < n
  | .pay k _ => k < n
  | _ => True
theorem dlk_name : ∀ {names : List Str} {vs : List D} {k : Nat} {x : Str}, names.Nodup → names[k]? = some x → vs.length = names.length → dlk key1 (names.map .str) vs (.inr x) = vs[k]?
  | [], _, _, _, _, h, _ => by simp at h
  | a :: names, [], _, _, _, _, h => by simp at h
  | a :: names, v :: vs, 0, x, nd, h, l => by
    simp at h
    subst h
    simp
  | a :: names, v :: vs, k + 1, x, nd, h, l => by
    rw [List.getElem?_cons_succ] at h
    have : a ≠ x := fun e => by
      subst e
      exact (List.nodup_cons.mp nd).1 (List.mem_of_getElem? h)
    rw [List.map_cons, dlk_cons, if_neg (by simpa using this), dlk_name (List.nodup_cons.mp nd).2 h (by simpa using l), List.getElem?_cons_succ]
theorem nm_at {names : List Str} {k : Nat} (h : k < names.length) : names[k]? = some (nm names k) := by
  unfold nm
  rw [List.getD_eq_getElem?_getD, List.getElem?_eq_getElem h]; rfl
theorem ix_name {names : List Str} {k : Nat} (nd : names.Nodup) (h : k < names.length) : gIx (.dct 0 (names.map .str) (idxs names)) (.str (nm names k)) = some (.val (.int k)) := by
  refine g_ixD ?_
  rw [dlook_s, dlk_name nd (nm_at h) (by simp [idxs])]
  simp [idxs, h]
def can (s : St) : Ev → Bool
  | .cut k => s.lines.getD k false
  | .line k => !s.lines.getD k false
  | .pay _ _ => true
  | .top u => decide (u ≤ s.tops)
  | .lose => !s.lost
def Lay.move (L : Lay) (s : St) : Ev → St × Str
  | .cut k => (L.cut s k, "done")
  | .line k => (L.line s k, "done")
  | .pay k u => (L.pay s k u, L.word s k u)
  | .top u => (s.top u, "done")
  | .lose => (s.loss, "done")
section
variable {L : Lay} {s : St} {n k : Nat} {u : Int} {e : Ev}
theorem v_can (h : L.ok n) (nd : L.names.Nodup) (hs : s.ok n) (he : e.ok n) : m_can_follow [L.D, s.D, e.D L.names] = some (.ok (.val (.bl (can s e)))) := by
  obtain ⟨l1, l2, l3⟩ := hs
  cases e with
  | cut k =>
    have hk : k < n := he
    simp (disch := tm_at "dj") [m_can_follow, Ev.D, can, ix_name nd (h.names ▸ hk)]
  | line k =>
    have hk : k < n := he
    simp (disch := tm_at "dj") [m_can_follow, Ev.D, can, ix_name nd (h.names ▸ hk)]
  | pay k u => simp (disch := tm_at "dj") [m_can_follow, Ev.D, can]
  | top u => simp (disch := tm_at "dj") [m_can_follow, Ev.D, can]
  | lose => simp (disch := tm_at "dj") [m_can_follow, Ev.D, can]
theorem v_moved (h : L.ok n) (nd : L.names.Nodup) (hs : s.ok n) (he : e.ok n) : m_moved [L.D, s.D, e.D L.names] = some (.ok (.val (.tup [(L.move s e).1.D, .str (L.move s e).2]))) := by
  cases e with
  | cut k =>
    have hk : k < n := he
    have v := v_cut h hs hk
    rw [sd_get s] at v ⊢
    simp (disch := tm_at "dj") [m_moved, Ev.D, Lay.move, ix_name nd (h.names ▸ hk), v]
  | line k =>
    have hk : k < n := he
    have v := v_line h hs hk
    rw [sd_get s] at v ⊢
    simp (disch := tm_at "dj") [m_moved, Ev.D, Lay.move, ix_name nd (h.names ▸ hk), v]
  | pay k u =>
    have hk : k < n := he
    have v := v_pay (u := u) h hs hk
    rw [sd_get s] at v ⊢
    simp (disch := tm_at "dj") [m_moved, Ev.D, Lay.move, ix_name nd (h.names ▸ hk), v]
  | top u =>
    have v := v_top (s := s) (u := u)
    rw [sd_get s] at v ⊢
    simp (disch := tm_at "dj") [m_moved, Ev.D, Lay.move, v]
  | lose =>
    have v := v_loss (s := s)
    rw [sd_get s] at v ⊢
    simp (disch := tm_at "dj") [m_moved, Ev.D, Lay.move, v]
def Lay.row (L : Lay) (s : St) (e : Ev) : Dm.D := .tup [e.D L.names, .str (L.move s e).2, (L.move s e).1.D]
def Lay.steps (L : Lay) (s : St) (es : List Ev) : List Dm.D := (es.filter (can s)).map (L.row s)
theorem v_steps_from (h : L.ok n) (nd : L.names.Nodup) (hs : s.ok n) {es : List Ev} (he : ∀ e ∈ es, e.ok n) (hl : es.length ≤ 1000) (hL : L.events = es.map (Ev.D L.names)) : m_steps_from [L.D, s.D] = some (.ok (.own false (.lst (L.steps s es)))) := by
  simp (disch := tm_at "dj") [m_steps_from, hL]
  obtain ⟨ρ', h1, h2⟩ := for_inv (tf := tgN 3) (body := sIf (mTest (frz (mCall m_can_follow (mCons (mVar 0) (mCons (mVar 1) (mCons (mVar 3) mNil)))))) (sSeq (sUn (unD 2 (tgCons (tgN 4) (tgCons (tgN 5) tgNil))) (frz (mCall m_moved (mCons (mVar 0) (mCons (mVar 1) (mCons (mVar 3) mNil))))))
    (sApp 2 (mTup (mCons (mVar 3) (mCons (mVar 5) (mCons (mVar 4) mNil)))))) sNx) (enc := Ev.D L.names)
    (fun rest ρ => ∃ done a b c, es = done ++ rest ∧ ρ = [.val L.D, .val s.D, .own false (.lst (L.steps s done)), a, b, c] ∧ pl a ∧ pl b ∧ pl c)
    (fun e rest ρ => by
      rintro ⟨done, a, b, c, hes, rfl, ha, hb, hc⟩
      have hm : e ∈ es := by rw [hes]; simp
      have v1 := v_can h nd hs (he e hm)
      have v2 := v_moved h nd hs (he e hm)
      have hn : (L.steps s done).length < 1000000 := by
        have : (L.steps s done).length ≤ done.length := by simp [Lay.steps]; exact List.length_filter_le _ _
        have : es.length = done.length + (e :: rest).length := by rw [hes]; simp
        omega
      refine ⟨_, by simp [e_sCp ha]; rfl, ?_⟩
      rw [sd_get s] at v1 v2
      cases hcan : can s e with
      | false =>
        refine ⟨_, .inl (by simp [v1, hcan]; rfl), done ++ [e], .val (e.D L.names), b, c, by simp [hes], ?_, trivial, hb, hc⟩
        simp [Lay.steps, hcan]
      | true =>
        refine ⟨_, .inl (by simp (disch := tm_at "dj") [v1, v2, hcan, e_sCp hb, e_sCp hc]; rfl), done ++ [e], .val (e.D L.names), .val (L.move s e).1.D, .val (.str (L.move s e).2), by simp [hes], ?_, trivial, trivial, trivial⟩
        simp [Lay.steps, hcan, Lay.row])
    es [.val L.D, .val s.D, .own false (.lst []), .un, .un, .un] ⟨[], .un, .un, .un, by simp, by simp [Lay.steps], trivial, trivial, trivial⟩
  obtain ⟨done, a, b, c, hes, rfl, _⟩ := h2
  rw [sd_get s] at h1
  rw [h1]
  simp at hes
  subst hes
  simp
end
end Toy

namespace Toy
open PySem PySem.Spec PyProof.Rows L2 Kx Dm
local macro_rules | `(tactic| tm_at "dj") => `(tactic| first | (simp; done) | (simp; omega) | omega)
/-! ### the law's own play -/
structure Tn where
  names : List Str
  limits : List Int
  links : List (Str × Str)
  heeds : List Bool
  money : Int
  tops : Int
  kind : Str
  most : Int
  numbered : Bool
def memD' (kind : Str) (most : Int) : D := if kind = "nothing" then .tup [.str "nothing"] else .tup [.str kind, .int most]
def pairD (p : Str × Str) : D := .tup [.str p.1, .str p.2]
def Tn.D (t : Tn) : D := .dct 0 [.str "names", .str "limits", .str "links", .str "heeds", .str "money", .str "tops", .str "memory", .str "numbered"]
  [.lst (t.names.map .str), .lst (t.limits.map .int), .lst (t.links.map pairD), .lst (t.heeds.map .bl), .int t.money, .int t.tops, memD' t.kind t.most, .bl t.numbered]
section
variable (t : Tn)
@[simp] theorem tn_names : gIx t.D (.str "names") = some (.val (.lst (t.names.map .str))) := by simp [Tn.D]
@[simp] theorem tn_limits : gIx t.D (.str "limits") = some (.val (.lst (t.limits.map .int))) := by simp [Tn.D]
@[simp] theorem tn_links : gIx t.D (.str "links") = some (.val (.lst (t.links.map pairD))) := by simp [Tn.D]
@[simp] theorem tn_heeds : gIx t.D (.str "heeds") = some (.val (.lst (t.heeds.map .bl))) := by simp [Tn.D]
@[simp] theorem tn_money : gIx t.D (.str "money") = some (.val (.int t.money)) := by simp [Tn.D]
@[simp] theorem tn_tops : gIx t.D (.str "tops") = some (.val (.int t.tops)) := by simp [Tn.D]
@[simp] theorem tn_memory : gIx t.D (.str "memory") = some (.val (memD' t.kind t.most)) := by simp [Tn.D]
@[simp] theorem tn_numbered : gIx t.D (.str "numbered") = some (.val (.bl t.numbered)) := by simp [Tn.D]
end
@[simp] theorem mem_kind {k : Str} {m : Int} : gIx (memD' k m) (.int 0) = some (.val (.str k)) := by
  unfold memD'
  split
  · rename_i h; subst h; simp
  · simp
theorem mem_most {k : Str} {m : Int} (h : k ≠ "nothing") : gIx (memD' k m) (.int 1) = some (.val (.int m)) := by
  unfold memD'
  rw [if_neg h]; simp
theorem v_lput {xs : List D} {n : Nat} {d : D} (h : n < xs.length) (hl : xs.length ≤ 1000) : m__law_put [.tup xs, .int n, d] = some (.ok (.val (.tup (xs.set n d)))) := by
  simp (disch := tm_at "dj") [m__law_put, set_cut h]
@[simp] theorem v_lput_b {xs : List Bool} {n : Nat} {b : Bool} (h : n < xs.length) (hl : xs.length ≤ 1000) : m__law_put [bbs xs, .int n, .bl b] = some (.ok (.val (bbs (xs.set n b)))) := by
  unfold bbs
  rw [v_lput (by rw [List.length_map]; exact h) (by rw [List.length_map]; exact hl), List.map_set]
@[simp] theorem v_lput_i {xs : List Int} {n : Nat} {b : Int} (h : n < xs.length) (hl : xs.length ≤ 1000) : m__law_put [iis xs, .int n, .int b] = some (.ok (.val (iis (xs.set n b)))) := by
  unfold iis
  rw [v_lput (by rw [List.length_map]; exact h) (by rw [List.length_map]; exact hl), List.map_set]
def low (i j : Int) : Int := if i < 0 - j then 0 - j else i
@[simp] theorem v_low {i j : Int} : m__law_low [.int i, .int j] = some (.ok (.val (.int (low i j)))) := by
  simp [m__law_low, low, gMax, intsD, maxI]
  split <;> omega
@[simp] theorem v_lstopped {s : St} : m__law_stopped [s.D] = some (.ok (.val (.bl s.stopped))) := by
  simp [m__law_stopped, St.stopped]
theorem filter_any {g : List Nat} {f : Nat → Bool} : (g.filter f).isEmpty = !g.any f := by
  induction g with
  | nil => rfl
  | cons a g ih =>
    cases h : f a with
    | true => rw [List.filter_cons_of_pos h, List.any_cons, h]; rfl
    | false => rw [List.filter_cons_of_neg (by rw [h]; exact Bool.false_ne_true), List.any_cons, h, ih]; rfl
@[simp] theorem ne_nns {g : List Nat} {f : Nat → Bool} : gNe (.lst ((g.filter f).map fun (i : Nat) => D.int (i : Nat))) (.lst []) = some (.val (.bl (g.any f))) := by
  have := g_ne (eqL_nil (xs := (g.filter f).map fun (i : Nat) => D.int (i : Nat)) (okD_flat (n := 63) (fun _ _ => okD_int)))
  rw [this]
  simp [filter_any]
@[simp] theorem eq_nns {g : List Nat} {f : Nat → Bool} : gEq (.lst ((g.filter f).map fun (i : Nat) => D.int (i : Nat))) (.lst []) = some (.val (.bl (!g.any f))) := by
  have := g_eq (eqL_nil (xs := (g.filter f).map fun (i : Nat) => D.int (i : Nat)) (okD_flat (n := 63) (fun _ _ => okD_int)))
  rw [this]
  simp [filter_any]
/-- the layout that the law's town has -/
def Tn.lay (t : Tn) (G : Nat → List Nat) : Lay where
  names := t.names
  limits := t.limits
  heeding := t.heeds
  groups := (List.range t.names.length).map G
  kind := t.kind
  most := if t.kind = "nothing" then 0 else t.most
  numbered := t.numbered
  events := []
structure Tn.ok (t : Tn) (n : Nat) : Prop where
  ten : n ≤ 10
  names : t.names.length = n
  limits : t.limits.length = n
  heeds : t.heeds.length = n
  nd : t.names.Nodup
  str : ∀ x ∈ t.names, PyData.strOk x = true
  kind : t.kind = "nothing" ∨ t.kind = "times" ∨ t.kind = "sum"
/-- what holds of the states that come -/
structure Good (L : Lay) (n : Nat) (s : St) : Prop where
  ok : s.ok n
  un : ∀ k, s.lines.getD k false = true → s.untold.getD k 0 = 0
  he : ∀ k, k < n → s.anyL (L.gr k) = true → ∀ i ∈ L.gr k, s.heard.getD i false = false
  lt : s.lost = true → s.tops = 0
  tp : 0 ≤ s.tops
  rm : L.kind = "nothing" → s.rem = 0
section
variable {t : Tn} {G : Nat → List Nat} {s : St} {n k : Nat} {u : Int}
theorem lay_gr (ht : t.ok n) (hk : k < n) : (t.lay G).gr k = G k := by
  have := ht.names
  unfold Lay.gr Tn.lay
  simp [List.getD_eq_getElem?_getD, List.getElem?_map, this, hk]
theorem lay_ok (ht : t.ok n) (gG : ∀ k, k < n → (G k).length ≤ 1000 ∧ ∀ i ∈ G k, i < n) : (t.lay G).ok n := by
  have h1 := ht.names
  have h2 := ht.ten
  exact ⟨by omega, h1, ht.limits, ht.heeds, by simp [Tn.lay, h1], fun g hg => by
    obtain ⟨k, hk, rfl⟩ := List.mem_map.mp hg
    exact gG k (by simpa [h1] using hk)⟩
theorem sum_un (hs : Good L n s) {g : List Nat} : ((g.filter fun i => !s.lines.getD i false).map fun i => s.untold.getD i 0).sum = s.sumU g := by
  unfold St.sumU
  induction g with
  | nil => rfl
  | cons a g ih =>
    cases h : s.lines.getD a false with
    | true => rw [List.filter_cons_of_neg (by rw [h]; simp), ih, List.map_cons, List.sum_cons, hs.un a h]; omega
    | false => rw [List.filter_cons_of_pos (by rw [h]; rfl), List.map_cons, List.sum_cons, List.map_cons, List.sum_cons, ih]
theorem v_lword (ht : t.ok n) (hG : ∀ k, k < n → m__law_group [t.D, .int k] = some (.ok (.own false (.lst ((G k).map fun (i : Nat) => D.int (i : Nat))))))
    (gG : ∀ k, k < n → (G k).length ≤ 1000 ∧ ∀ i ∈ G k, i < n) (hs : Good (t.lay G) n s) (hk : k < n) : m__law_word [t.D, s.D, .int k, .int u] = some (.ok (.val (.str ((t.lay G).word s k u)))) := by
  obtain ⟨l1, l2, l3⟩ := hs.ok
  obtain ⟨g1, g2⟩ := gG k hk
  have vs := v_lstopped (s := s)
  rw [sd_get] at vs
  have a1 := b_at (xs := s.lines) (l1 ▸ hk)
  have a2 := b_at (xs := t.heeds) (ht.heeds ▸ hk)
  have a3 := i_at (xs := t.limits) (ht.limits ▸ hk)
  have a4 := b_at (xs := s.heard) (l3 ▸ hk)
  have su := sum_un hs (g := G k)
  have wl : (t.lay G).word s k u = _ := rfl
  conv at wl => rhs; unfold Lay.word
  simp only [lay_gr ht hk] at wl
  cases c1 : s.lines.getD k false with
  | true =>
    rw [c1] at wl
    simp [m__law_word, -List.getD_eq_getElem?_getD, a1, c1]
    rw [wl, if_pos rfl]
    by_cases h1 : s.lost = true <;> by_cases h2 : s.left < u <;> simp [h1, h2]
    all_goals omega
  | false =>
    rw [c1, if_neg Bool.false_ne_true] at wl
    have an : ((G k).any fun i => s.lines.getD i false) = s.anyL (G k) := rfl
    have tk : (t.lay G).takes s k = if s.anyL (G k) = true then s.stopped else s.heard.getD k false := by unfold Lay.takes; rw [lay_gr ht hk]
    simp [m__law_word, hG k hk, -List.getD_eq_getElem?_getD, a1, c1]
    rw [lc_pure (fun i => s.lines.getD i false) (fun (i : Nat) => D.int (i : Nat))]
    · simp [-List.getD_eq_getElem?_getD, -List.any_eq_true, a2, a4, vs, an]
      rw [lc_pure (fun i => !s.lines.getD i false) (fun i => D.int (s.untold.getD i 0))]
      · rw [wl, tk, show (t.lay G).heeding.getD k false = t.heeds.getD k false from rfl, show (t.lay G).limits.getD k 0 = t.limits.getD k 0 from rfl]
        have e1 : (t.heeds.getD k false = true ∧ (if s.anyL (G k) = true then s.stopped else s.heard.getD k false) = true) ↔ (t.heeds.getD k false = true ∧ if s.anyL (G k) = true then s.stopped = true else s.heard.getD k false = true) := by
          split <;> rfl
        by_cases h1 : t.heeds.getD k false = true ∧ (if s.anyL (G k) = true then s.stopped else s.heard.getD k false) = true
        · rw [if_pos h1, if_pos (e1.mp h1)]
        · rw [if_neg h1, if_neg (fun z => h1 (e1.mpr z))]
          simp [-List.getD_eq_getElem?_getD, a3, su]
          by_cases h2 : t.limits.getD k 0 < s.sumU (G k) + u
          · simp [h2, -List.getD_eq_getElem?_getD]
          · rcases ht.kind with h | h | h
            · have hr := hs.rm h
              simp [h2, h, hr, -List.getD_eq_getElem?_getD, Tn.lay, Lay.cost]
            · simp [h2, h, mem_most, -List.getD_eq_getElem?_getD, Tn.lay, Lay.cost]
            · simp [h2, h, mem_most, -List.getD_eq_getElem?_getD, Tn.lay, Lay.cost]
      · intro i hi
        exact ⟨_, rfl, rfl, by simp [b_at (l1 ▸ g2 i hi), -List.getD_eq_getElem?_getD], fun _ => by simp [i_at (l2 ▸ g2 i hi), -List.getD_eq_getElem?_getD]⟩
      · simpa using Nat.le_trans g1 (by decide)
    · intro i hi
      exact ⟨_, rfl, rfl, by simp [b_at (l1 ▸ g2 i hi), -List.getD_eq_getElem?_getD], fun _ => by simp⟩
    · simpa using Nat.le_trans g1 (by decide)
end
end Toy

namespace Toy
open PySem PySem.Spec PyProof.Rows L2 Kx Dm
local macro_rules | `(tactic| tm_at "dj") => `(tactic| first | (simp; done) | (simp; omega) | omega)
theorem setAll_len {g : List Nat} {b : Bool} {xs : List Bool} : (setAll g b xs).length = xs.length := by simp [setAll]
theorem setAll_at {g : List Nat} {b : Bool} {xs : List Bool} {i : Nat} (h : i < xs.length) : (setAll g b xs)[i]? = some (if i ∈ g then b else xs.getD i false) := by
  unfold setAll
  rw [List.getElem?_map, List.getElem?_zipIdx, b_at h]
  simp
theorem setAll_nil {b : Bool} {xs : List Bool} : setAll [] b xs = xs := by
  apply List.ext_getElem?
  intro i
  by_cases h : i < xs.length
  · rw [setAll_at h, b_at h]; simp
  · rw [List.getElem?_eq_none (by rw [setAll_len]; omega), List.getElem?_eq_none (by omega)]
theorem setAll_app {g : List Nat} {b : Bool} {xs : List Bool} {x : Nat} : setAll (g ++ [x]) b xs = (setAll g b xs).set x b := by
  apply List.ext_getElem?
  intro i
  by_cases h : i < xs.length
  · rw [setAll_at h, List.getElem?_set, setAll_at h, setAll_len]
    by_cases e : x = i
    · subst e; simp [h]
    · simp [e, Ne.symm e]
  · rw [List.getElem?_eq_none (by rw [setAll_len]; omega), List.getElem?_eq_none (by rw [List.length_set, setAll_len]; omega)]
theorem setAll_same {g : List Nat} {b : Bool} {xs : List Bool} (h : ∀ i ∈ g, xs.getD i false = b) : setAll g b xs = xs := by
  apply List.ext_getElem?
  intro i
  by_cases hi : i < xs.length
  · rw [setAll_at hi, b_at hi]
    by_cases e : i ∈ g
    · rw [if_pos e, h i e]
    · rw [if_neg e]
  · rw [List.getElem?_eq_none (by rw [setAll_len]; omega), List.getElem?_eq_none (by omega)]
theorem set_same {xs : List Int} {k : Nat} {z : Int} (h : xs.getD k 0 = z) : xs.set k z = xs := by
  apply List.ext_getElem?
  intro i
  rw [List.getElem?_set]
  split
  · rename_i e; subst e
    split
    · rename_i h2; rw [i_at h2, h]
    · rename_i h2; rw [List.getElem?_eq_none (by omega)]
  · rfl
section
variable {t : Tn} {G : Nat → List Nat} {s : St} {n k : Nat} {u : Int}
/-- what the law's groups are taken to be -/
structure Grp (t : Tn) (n : Nat) (G : Nat → List Nat) : Prop where
  run : ∀ k, k < n → m__law_group [t.D, .int k] = some (.ok (.own false (.lst ((G k).map fun (i : Nat) => D.int (i : Nat)))))
  mem : ∀ k, k < n → (G k).length ≤ 1000 ∧ ∀ i ∈ G k, i < n
  self : ∀ k, k < n → k ∈ G k
theorem v_lpaid (ht : t.ok n) (hG : Grp t n G) (hs : Good (t.lay G) n s) (hk : k < n) (hu : 0 ≤ u) : m__law_paid [t.D, s.D, .int k, .int u] = some (.ok (.own false (.lst [((t.lay G).pay s k u).D, .str ((t.lay G).word s k u)]))) := by
  have vw := v_lword (u := u) ht hG.run hG.mem hs hk
  have wl : (t.lay G).word s k u = _ := rfl
  conv at wl => rhs; unfold Lay.word
  obtain ⟨l1, l2, l3⟩ := hs.ok
  have h10 := ht.ten
  have a1 := b_at (xs := s.lines) (l1 ▸ hk)
  have a2 := i_at (xs := s.untold) (l2 ▸ hk)
  rw [sd_get] at vw
  unfold Lay.pay
  by_cases c1 : (t.lay G).word s k u = "taken"
  · cases c2 : s.lines.getD k false with
    | true =>
      rw [c2, if_pos rfl, c1] at wl
      have h2 : ¬ s.left < u := fun z => by
        rw [if_pos (.inr z)] at wl
        simp at wl
      have tp := hs.tp
      simp [m__law_paid, vw, c1, -List.getD_eq_getElem?_getD, a1, c2]
      unfold low
      rw [if_neg (by omega)]
    | false =>
      have vp := v_lput_i (xs := s.untold) (n := k) (b := s.untold.getD k 0 + u) (by omega) (by omega)
      have kd : (t.lay G).kind = t.kind := rfl
      rcases ht.kind with h | h | h <;> simp [m__law_paid, vw, c1, -List.getD_eq_getElem?_getD, a1, c2, a2, vp, h, kd, Lay.cost]
  · simp [m__law_paid, vw, c1, -List.getD_eq_getElem?_getD]
theorem put_loop {g : List Nat} {xs : List Bool} {b : Bool} {c0 c1 c2 c3 c4 c5 c6 : Cell} (hg : ∀ i ∈ g, i < xs.length) (hl : xs.length ≤ 1000) :
    ∃ c9, forGo (tgN 9) (sSet 7 (mCall m__law_put (mCons (mVar 7) (mCons (mVar 9) (mCons (mVar 8) mNil))))) (g.map fun (i : Nat) => D.int (i : Nat)) [c0, c1, c2, c3, c4, c5, c6, .val (bbs xs), .val (.bl b), .un] = some (.nx [c0, c1, c2, c3, c4, c5, c6, .val (bbs (setAll g b xs)), .val (.bl b), c9]) := by
  obtain ⟨ρ', h1, done, c9, e, rfl, _⟩ := for_inv (tf := tgN 9) (body := sSet 7 (mCall m__law_put (mCons (mVar 7) (mCons (mVar 9) (mCons (mVar 8) mNil))))) (enc := fun (i : Nat) => D.int (i : Nat))
    (fun rest ρ => ∃ done c9, g = done ++ rest ∧ ρ = [c0, c1, c2, c3, c4, c5, c6, .val (bbs (setAll done b xs)), .val (.bl b), c9] ∧ pl c9)
    (fun x rest ρ => by
      rintro ⟨done, c9, e, rfl, p⟩
      have hx : x < xs.length := hg x (by rw [e]; simp)
      have vp := v_lput_b (xs := setAll done b xs) (n := x) (b := b) (by rw [setAll_len]; exact hx) (by rw [setAll_len]; exact hl)
      exact ⟨_, by simp [e_sCp p]; rfl, _, .inl (by simp [vp]; rfl), done ++ [x], .val (.int x), by simp [e], by rw [setAll_app], trivial⟩)
    g [c0, c1, c2, c3, c4, c5, c6, .val (bbs xs), .val (.bl b), .un] ⟨[], .un, rfl, by rw [setAll_nil], trivial⟩
  refine ⟨c9, ?_⟩
  rw [h1]
  rw [List.append_nil] at e
  rw [e]
theorem v_llined (ht : t.ok n) (hG : Grp t n G) (hs : Good (t.lay G) n s) (hk : k < n) {b : Bool} (hb : s.lines.getD k false = !b) :
    m__law_lined [t.D, s.D, .int k, .bl b] = some (.ok (.own false (.lst [(if b = true then (t.lay G).line s k else (t.lay G).cut s k).D, .str "done"]))) := by
  obtain ⟨l1, l2, l3⟩ := hs.ok
  have h10 := ht.ten
  obtain ⟨g1, g2⟩ := hG.mem k hk
  have a1 := b_at (xs := s.lines) (l1 ▸ hk)
  have a2 := i_at (xs := s.untold) (l2 ▸ hk)
  have vp := v_lput_b (xs := s.lines) (n := k) (b := b) (by omega) (by omega)
  have vu := v_lput_i (xs := s.untold) (n := k) (b := 0) (by omega) (by omega)
  have vs := v_lstopped (s := s)
  rw [sd_get] at vs
  have an : ((G k).any fun i => (s.lines.set k b).getD i false) = ({ s with lines := s.lines.set k b } : St).anyL (G k) := rfl
  simp [m__law_lined, hG.run k hk, -List.getD_eq_getElem?_getD, a2, vp]
  rw [lc_pure (fun i => (s.lines.set k b).getD i false) (fun (i : Nat) => D.int (i : Nat))]
  · simp [-List.getD_eq_getElem?_getD, -List.any_eq_true, vs, an]
    obtain ⟨c9, hp⟩ := put_loop (g := G k) (xs := s.heard) (b := !({ s with lines := s.lines.set k b } : St).anyL (G k) && s.stopped) (c0 := .val t.D) (c1 := .val s.D) (c2 := .val (.int k)) (c3 := .val (.bl b))
      (c4 := .val (.int (if b = true then low (s.left - s.untold.getD k 0) s.tops else s.left))) (c5 := .val (bbs (s.lines.set k b))) (c6 := .val (.lst ((G k).map fun (i : Nat) => D.int (i : Nat)))) (l3 ▸ g2) (by omega)
    rw [sd_get] at hp
    rw [hp]
    simp [vu, -List.getD_eq_getElem?_getD]
    cases b with
    | true =>
      have e1 : ({ s with lines := s.lines.set k true } : St).anyL (G k) = true := by
        unfold St.anyL
        rw [List.any_eq_true]
        refine ⟨k, hG.self k hk, ?_⟩
        rw [List.getD_eq_getElem?_getD, List.getElem?_set_self (by omega)]
        rfl
      simp [e1, Lay.line, lay_gr ht hk, toTops, low, -List.getD_eq_getElem?_getD]
      split <;> split <;> omega
    | false =>
      have hb : s.lines.getD k false = true := hb
      have e0 : s.untold.set k 0 = s.untold := set_same (hs.un k hb)
      have e2 : s.anyL (G k) = true := by
        unfold St.anyL
        rw [List.any_eq_true]
        exact ⟨k, hG.self k hk, hb⟩
      have e3 : setAll (G k) false s.heard = s.heard := setAll_same (by
        have := hs.he k hk
        rw [lay_gr ht hk] at this
        exact this e2)
      cases e4 : ({ s with lines := s.lines.set k false } : St).anyL (G k) with
      | true => simp [e4, e3, e0, Lay.cut, lay_gr ht hk]
      | false => simp [e4, e0, Lay.cut, lay_gr ht hk]
  · intro i hi
    have := b_at (xs := s.lines.set k b) (k := i) (by rw [List.length_set]; exact l1 ▸ g2 i hi)
    exact ⟨_, rfl, rfl, by simp [this, -List.getD_eq_getElem?_getD], fun _ => by simp⟩
  · simpa using Nat.le_trans g1 (by decide)
theorem ix_index {names : List Str} {k : Nat} (nd : names.Nodup) (h : k < names.length) : gIdx (names.map .str) [.str (nm names k)] = some (.val (.int k)) := by
  have key : ∀ (ns : List Str) (k : Nat), ns.Nodup → k < ns.length → idxF (.str (nm ns k)) (ns.map .str) = some k := by
    intro ns
    induction ns with
    | nil => intro k _ h; simp at h
    | cons a ns ih =>
      intro k nd h
      cases k with
      | zero => simp [idxF, nm, eqF]
      | succ k =>
        have h' : k < ns.length := by simpa using h
        have e : nm (a :: ns) (k + 1) = nm ns k := by simp [nm]
        have ne : a ≠ nm ns k := fun z => (List.nodup_cons.mp nd).1 (by rw [z]; exact List.mem_of_getElem? (nm_at h'))
        rw [e]
        simp [idxF, eqF, ne, ih k (List.nodup_cons.mp nd).2 h']
  show (if isF (D.str (nm names k)) = true ∧ (names.map D.str).all isF = true then (idxF (D.str (nm names k)) (names.map D.str)).bind fun j => cI (j : Nat) else none) = _
  rw [if_pos ⟨rfl, by simp [isF]⟩, key _ _ nd h]
  rfl
theorem v_lcan (ht : t.ok n) (hs : Good (t.lay G) n s) {e : Ev} (he : e.ok n) (hu : ∀ u, e = .top u → 0 < u) : m__law_can [t.D, s.D, e.D t.names] = some (.ok (.val (.bl (can s e)))) := by
  obtain ⟨l1, l2, l3⟩ := hs.ok
  have hn := ht.names
  cases e with
  | cut k =>
    have hk : k < n := he
    have a1 := b_at (xs := s.lines) (l1 ▸ hk)
    simp [m__law_can, Ev.D, can, ix_index ht.nd (hn ▸ hk), a1, -List.getD_eq_getElem?_getD]
  | line k =>
    have hk : k < n := he
    have a1 := b_at (xs := s.lines) (l1 ▸ hk)
    simp [m__law_can, Ev.D, can, ix_index ht.nd (hn ▸ hk), a1, -List.getD_eq_getElem?_getD]
  | pay k u => simp [m__law_can, Ev.D, can]
  | top u =>
    have h0 := hu u rfl
    have ht := hs.lt
    simp [m__law_can, Ev.D, can]
    intro h
    cases hl : s.lost with
    | true => have := ht hl; omega
    | false => rfl
  | lose => simp [m__law_can, Ev.D, can]
theorem v_lafter (ht : t.ok n) (hG : Grp t n G) (hs : Good (t.lay G) n s) {e : Ev} (he : e.ok n) (hc : can s e = true) (hu : ∀ k u, e = .pay k u → 0 ≤ u) : m__law_after [t.D, s.D, e.D t.names] = some (.ok (.own false (.lst [((t.lay G).move s e).1.D, .str ((t.lay G).move s e).2]))) := by
  have hn := ht.names
  cases e with
  | cut k =>
    have hk : k < n := he
    have v := v_llined ht hG hs hk (b := false) (by simpa [can] using hc)
    rw [sd_get s] at v ⊢
    simp [m__law_after, Ev.D, Lay.move, ix_index ht.nd (hn ▸ hk), v]
  | line k =>
    have hk : k < n := he
    have v := v_llined ht hG hs hk (b := true) (by simpa [can] using hc)
    rw [sd_get s] at v ⊢
    simp [m__law_after, Ev.D, Lay.move, ix_index ht.nd (hn ▸ hk), v]
  | pay k u =>
    have hk : k < n := he
    have v := v_lpaid ht hG hs hk (hu k u rfl)
    rw [sd_get s] at v ⊢
    simp [m__law_after, Ev.D, Lay.move, ix_index ht.nd (hn ▸ hk), v]
  | top u => simp [m__law_after, Ev.D, Lay.move, St.top]
  | lose =>
    simp [m__law_after, Ev.D, Lay.move, St.loss, low, toTops]
    split <;> split <;> omega
end
end Toy

namespace Toy
open PySem PySem.Spec PyProof.Rows L2 Kx Dm
local macro_rules | `(tactic| tm_at "dj") => `(tactic| first | (simp; done) | (simp; omega) | omega)
def evs (n : Nat) : List Ev := (List.range n).map .cut ++ (List.range n).map .line ++ (List.range n).flatMap (fun k => [.pay k 1, .pay k 2]) ++ [.top 1, .top 2, .lose]
def againD (x : Str) : D := .tup [.str "again", .str x]
theorem names_range (names : List Str) : (List.range names.length).map (nm names) = names := by
  apply List.ext_getElem?
  intro i
  rw [List.getElem?_map]
  by_cases h : i < names.length
  · rw [List.getElem?_range h, nm_at h]; rfl
  · rw [List.getElem?_eq_none (by simpa using Nat.le_of_not_lt h), List.getElem?_eq_none (by omega)]; rfl
theorem map_names {α : Type} {names : List Str} (f : Str → α) : names.map f = (List.range names.length).map fun k => f (nm names k) := by
  conv => lhs; rw [← names_range names]
  rw [List.map_map]; rfl
theorem evs_D {names : List Str} : (evs names.length).map (Ev.D names) = names.map (fun x => D.tup [.str "cut", .str x]) ++ names.map (fun x => D.tup [.str "line", .str x]) ++ names.flatMap (fun x => [D.tup [.str "pay", .str x, .int 1], D.tup [.str "pay", .str x, .int 2]]) ++ [.tup [.str "top", .int 1], .tup [.str "top", .int 2], .tup [.str "lose"]] := by
  rw [map_names (fun x => D.tup [.str "cut", .str x]), map_names (fun x => D.tup [.str "line", .str x])]
  have e : names.flatMap (fun x => [D.tup [.str "pay", .str x, .int 1], D.tup [.str "pay", .str x, .int 2]]) = (List.range names.length).flatMap fun k => [D.tup [.str "pay", .str (nm names k), .int 1], D.tup [.str "pay", .str (nm names k), .int 2]] := by
    conv => lhs; rw [← names_range names]
    rw [List.flatMap_map]
  rw [e]
  unfold evs
  simp only [List.map_append, List.map_map, List.map_flatMap]
  rfl
theorem evs_ok {n : Nat} : ∀ e ∈ evs n, e.ok n ∧ (∀ u, e = .top u → 0 < u) ∧ ∀ k u, e = .pay k u → 0 ≤ u := by
  intro e he
  unfold evs at he
  simp only [List.mem_append, List.mem_map, List.mem_flatMap, List.mem_range, List.mem_cons, List.not_mem_nil, or_false] at he
  rcases he with ((⟨k, hk, rfl⟩ | ⟨k, hk, rfl⟩) | ⟨k, hk, rfl | rfl⟩) | rfl | rfl | rfl
  · exact ⟨hk, fun u z => (nomatch z), fun k u z => (nomatch z)⟩
  · exact ⟨hk, fun u z => (nomatch z), fun k u z => (nomatch z)⟩
  · exact ⟨hk, fun u z => (nomatch z), fun k u z => by cases z; decide⟩
  · exact ⟨hk, fun u z => (nomatch z), fun k u z => by cases z; decide⟩
  · exact ⟨trivial, fun u z => by cases z; decide, fun k u z => (nomatch z)⟩
  · exact ⟨trivial, fun u z => by cases z; decide, fun k u z => (nomatch z)⟩
  · exact ⟨trivial, fun u z => (nomatch z), fun k u z => (nomatch z)⟩
theorem sum_two {α : Type} : ∀ l : List α, (l.map fun _ => 2).sum = 2 * l.length
  | [] => rfl
  | a :: l => by rw [List.map_cons, List.sum_cons, sum_two l, List.length_cons]; omega
theorem evs_len {n : Nat} (h : n ≤ 10) : (evs n).length ≤ 50 := by
  unfold evs
  simp [List.length_flatMap, sum_two]
  omega
section
variable {t : Tn} {G : Nat → List Nat} {s : St} {n k : Nat} {u : Int}
theorem pay_loop {names : List Str} {c0 : Cell} {acc : List D} (h : acc.length + 2 * names.length ≤ 1000) :
    ∃ c2, forGo (tgN 2) (sSet 1 (mOp gAdd (mVar 1) (frz (mLst (mCons (mTup (mCons (mC (.str "pay")) (mCons (mVar 2) (mCons (mC (.int 1)) mNil)))) (mCons (mTup (mCons (mC (.str "pay")) (mCons (mVar 2) (mCons (mC (.int 2)) mNil)))) mNil)))))) (names.map .str) [c0, .own false (.lst acc), .un] =
      some (.nx [c0, .own false (.lst (acc ++ names.flatMap (fun x => [D.tup [.str "pay", .str x, .int 1], D.tup [.str "pay", .str x, .int 2]]))), c2]) := by
  obtain ⟨ρ', h1, done, c2, e, rfl, _⟩ := for_inv (tf := tgN 2) (body := sSet 1 (mOp gAdd (mVar 1) (frz (mLst (mCons (mTup (mCons (mC (.str "pay")) (mCons (mVar 2) (mCons (mC (.int 1)) mNil)))) (mCons (mTup (mCons (mC (.str "pay")) (mCons (mVar 2) (mCons (mC (.int 2)) mNil)))) mNil)))))) (enc := D.str)
    (fun rest ρ => ∃ done c2, names = done ++ rest ∧ ρ = [c0, .own false (.lst (acc ++ done.flatMap (fun x => [D.tup [.str "pay", .str x, .int 1], D.tup [.str "pay", .str x, .int 2]]))), c2] ∧ pl c2)
    (fun x rest ρ => by
      rintro ⟨done, c2, e, rfl, p⟩
      have hl : acc.length + 2 * done.length + 2 ≤ 1000 := by
        have : names.length = done.length + (x :: rest).length := by rw [e]; simp
        rw [List.length_cons] at this
        omega
      have hl2 : (acc ++ done.flatMap (fun x => [D.tup [.str "pay", .str x, .int 1], D.tup [.str "pay", .str x, .int 2]])).length = acc.length + 2 * done.length := by
        simp [List.length_flatMap, sum_two]
      refine ⟨_, by simp [e_sCp p]; rfl, _, .inl (by simp (disch := first | (simp; done) | (rw [hl2]; simp; omega)); rfl), done ++ [x], .val (.str x), by simp [e], by simp, trivial⟩)
    names [c0, .own false (.lst acc), .un] ⟨[], .un, rfl, by simp, trivial⟩
  refine ⟨c2, ?_⟩
  rw [h1]
  rw [List.append_nil] at e
  rw [e]
theorem v_levents (ht : t.ok n) : m__law_events [t.D] = some (.ok (.own false (.lst ((evs n).map (Ev.D t.names) ++ t.names.map againD)))) := by
  have hn := ht.names
  have h10 := ht.ten
  have hD := @evs_D t.names
  rw [hn] at hD
  simp [m__law_events]
  rw [lc_map (f := fun x => D.tup [.str "cut", .str x])]
  · simp
    rw [lc_map (f := fun x => D.tup [.str "line", .str x])]
    · simp (disch := tm_at "dj")
      obtain ⟨c2, hp⟩ := pay_loop (names := t.names) (c0 := .val t.D) (acc := t.names.map (fun x => D.tup [.str "cut", .str x]) ++ t.names.map (fun x => D.tup [.str "line", .str x])) (by simp; omega)
      rw [hp]
      have hl : (t.names.flatMap (fun x => [D.tup [.str "pay", .str x, .int 1], D.tup [.str "pay", .str x, .int 2]])).length = 2 * t.names.length := by
        simp [List.length_flatMap, sum_two]
      simp (disch := first | (simp; done) | (simp [List.length_flatMap, sum_two]; omega))
      rw [lc_map (f := againD)]
      · simp (disch := first | (simp; done) | (simp [List.length_flatMap, sum_two]; omega))
        rw [hD]
        simp
      · intro x hx; exact ⟨_, rfl, rfl, by simp [againD]⟩
      · omega
    · intro x hx; exact ⟨_, rfl, rfl, by simp⟩
    · omega
  · intro x hx; exact ⟨_, rfl, rfl, by simp⟩
  · omega
def againsE (names : List Str) : Ev ⊕ Str → D
  | .inl e => e.D names
  | .inr x => againD x
theorem v_lchoices (ht : t.ok n) (hs : Good (t.lay G) n s) : m__law_choices [t.D, s.D] = some (.ok (.own false (.lst (((evs n).filter (can s)).map (Ev.D t.names))))) := by
  have h10 := ht.ten
  have hn := ht.names
  have ve := v_levents ht
  have hl := evs_len h10
  have e1 : (evs n).map (Ev.D t.names) ++ t.names.map againD = ((evs n).map Sum.inl ++ t.names.map Sum.inr).map (againsE t.names) := by
    rw [List.map_append, List.map_map, List.map_map]; rfl
  simp [m__law_choices, ve]
  rw [e1, lc_pure (fun x => match x with | .inl e => can s e | .inr _ => false) (againsE t.names)]
  · simp [List.filter_append, List.filter_map, Function.comp_def, againsE]
  · intro x hx
    have hx := List.mem_append.mp hx
    rcases hx with hx | hx
    · obtain ⟨e, he, rfl⟩ := List.mem_map.mp hx
      obtain ⟨h1, h2, h3⟩ := evs_ok e he
      have vc := v_lcan ht hs h1 h2
      rw [sd_get] at vc
      exact ⟨_, rfl, rfl, by simp [againsE, vc], fun _ => by simp [againsE]⟩
    · obtain ⟨y, hy, rfl⟩ := List.mem_map.mp hx
      exact ⟨_, rfl, rfl, by simp [againsE, againD, m__law_can], fun _ => by simp⟩
  · simp; omega
theorem v_lsteps (ht : t.ok n) (hG : Grp t n G) (hs : Good (t.lay G) n s) : m__law_steps [t.D, s.D] = some (.ok (.own false (.lst ((t.lay G).steps s (evs n))))) := by
  have h10 := ht.ten
  have vc := v_lchoices ht hs
  have hl := evs_len h10
  have hf := List.length_filter_le (can s) (evs n)
  rw [sd_get] at vc
  simp [m__law_steps, vc]
  obtain ⟨ρ', h1, done, a, b, c, hes, rfl, _⟩ := for_inv (tf := tgN 3) (body := sSeq (sUn (unD 2 (tgCons (tgN 4) (tgCons (tgN 5) tgNil))) (frz (mCall m__law_after (mCons (mVar 0) (mCons (mVar 1) (mCons (mVar 3) mNil))))))
    (sApp 2 (mTup (mCons (mVar 3) (mCons (mVar 5) (mCons (mVar 4) mNil)))))) (enc := Ev.D t.names)
    (fun rest ρ => ∃ done a b c, (evs n).filter (can s) = done ++ rest ∧ ρ = [.val t.D, .val s.D, .own false (.lst (done.map ((t.lay G).row s))), a, b, c] ∧ pl a ∧ pl b ∧ pl c)
    (fun e rest ρ => by
      rintro ⟨done, a, b, c, hes, rfl, ha, hb, hc⟩
      have hm : e ∈ (evs n).filter (can s) := by rw [hes]; simp
      obtain ⟨hm1, hm2⟩ := List.mem_filter.mp hm
      obtain ⟨g1, g2, g3⟩ := evs_ok e hm1
      have v2 := v_lafter ht hG hs g1 hm2 g3
      have hn : done.length < 1000000 := by
        have : ((evs n).filter (can s)).length = done.length + (e :: rest).length := by rw [hes]; simp
        omega
      rw [sd_get s] at v2
      refine ⟨_, by simp [e_sCp ha]; rfl, _, .inl (by simp (disch := tm_at "dj") [v2, e_sCp hb, e_sCp hc]; rfl), done ++ [e], .val (e.D t.names), .val ((t.lay G).move s e).1.D, .val (.str ((t.lay G).move s e).2), by simp [hes], ?_, trivial, trivial, trivial⟩
      simp [Lay.row]
      rfl)
    ((evs n).filter (can s)) [.val t.D, .val s.D, .own false (.lst []), .un, .un, .un] ⟨[], .un, .un, .un, by simp, by simp, trivial, trivial, trivial⟩
  rw [sd_get s] at h1
  rw [h1]
  simp at hes
  subst hes
  simp [Lay.steps]
end
end Toy

namespace Toy
open PySem PySem.Spec PyProof.Rows L2 Kx Dm
local macro_rules | `(tactic| tm_at "dj") => `(tactic| first | (simp; done) | (simp; omega) | omega)
section
variable {i : Int} {b : Bool} {a : Str} {xs : List D}
@[simp] theorem isIns_i : isIns (.int i) = false := .trans rfl rfl
@[simp] theorem isIns_b : isIns (.bl b) = false := .trans rfl rfl
@[simp] theorem isIns_s : isIns (.str a) = false := .trans rfl rfl
@[simp] theorem isIns_t : isIns (.tup xs) = false := .trans rfl rfl
@[simp] theorem isIns_l : isIns (.lst xs) = false := .trans rfl rfl
@[simp] theorem isIns_n : isIns .non = false := .trans rfl rfl
@[simp] theorem kd_i : kdD (.int i) = "int" := .trans rfl rfl
@[simp] theorem kd_b : kdD (.bl b) = "bool" := .trans rfl rfl
@[simp] theorem kd_s : kdD (.str a) = "str" := .trans rfl rfl
@[simp] theorem kd_t : kdD (.tup xs) = "tuple" := .trans rfl rfl
@[simp] theorem kd_l : kdD (.lst xs) = "list" := .trans rfl rfl
@[simp] theorem kd_n : kdD .non = "NoneType" := .trans rfl rfl
end
/-! ### names, tills, the town -/
def letter (c : Nat) : Bool := decide (97 ≤ c) && decide (c ≤ 122)
def okName (s : Str) : Prop := 1 ≤ s.length ∧ s.length ≤ 8 ∧ s.cps.toList.all letter = true
theorem cps_a : (Str.ofString "a").cps.toList = [97] := by decide +kernel
theorem cps_z : (Str.ofString "z").cps.toList = [122] := by decide +kernel
theorem lt_one {a b : Nat} : decide ([a] < [b]) = decide (a < b) := by
  apply decide_eq_decide.mpr
  constructor
  · intro h
    rcases List.cons_lt_cons_iff.mp h with h | ⟨_, h⟩
    · exact h
    · exact absurd h (List.not_lt_nil _)
  · intro h
    exact List.cons_lt_cons_iff.mpr (.inl h)
theorem v_is_name {s : Str} (h : okName s) : m_is_name [.str s] = some (.ok (.val (.bl true))) := by
  obtain ⟨h1, h2, h3⟩ := h
  have g1 : (1 : Int) ≤ (s.length : Int) := by omega
  have g2 : (s.length : Int) ≤ 8 := by omega
  simp (disch := tm_at "dj") [m_is_name, isiB, g1, g2, signsD]
  rw [lc_map (f := fun c => D.bl (letter c))]
  · have := @g_all (s.cps.toList.map letter)
    rw [List.map_map] at this
    simp [show (fun c => D.bl (letter c)) = D.bl ∘ letter from rfl, this]
    simpa using h3
  · intro c hc
    refine ⟨_, rfl, rfl, ?_⟩
    have e1 : (⟨#[c]⟩ : Str).cps.toList = [c] := rfl
    simp [cps_a, cps_z, lt_one, letter]
    by_cases q : c < 97
    · simp [q]
      intro h; omega
    · simp [q]
      rw [cps_z, lt_one]
      have q2 : 97 ≤ c := by omega
      by_cases r : c ≤ 122
      · simp [q2, r]
      · simp [q2, r]; omega
  · rw [Array.length_toList]
    exact Nat.le_trans (show s.cps.size ≤ 8 from h2) (by decide)
def tillNs : List Str := ["name", "limit", "heeds"]
def tillD (x : Str) (l : Int) (h : Bool) : D := .ins 0 tillNs [.str x, .int l, .bl h]
theorem v_is_limit {l : Int} (h0 : 0 ≤ l) (h9 : l ≤ 9) : m_is_limit [.int l] = some (.ok (.val (.bl true))) := by
  have hi : m_is_integer [.int l] = some (.ok (.val (.bl true))) := by
    simp (disch := tm_at "dj") [m_is_integer, isiB]
  simp [m_is_limit, m_is_integer_to, hi, h0, h9]
theorem v_till {x : Str} {l : Int} {b : Bool} (hx : okName x) (h0 : 0 ≤ l) (h9 : l ≤ 9) : m_Till_init [.ins 0 [] [], .str x, .int l, .bl b] = some (.ok (.val .non, tillD x l b)) := by
  have ht : m_is_truth [.bl b] = some (.ok (.val (.bl true))) := by
    simp [m_is_truth, isiB]
  simp [m_Till_init, v_is_name hx, v_is_limit h0 h9, ht, tillD, tillNs]
/-- a town's tills -/
structure Tl where
  name : Str
  limit : Int
  heeds : Bool
def Tl.D (p : Tl) : Dm.D := tillD p.name p.limit p.heeds
def Tl.ok (p : Tl) : Prop := okName p.name ∧ 0 ≤ p.limit ∧ p.limit ≤ 9
section
variable (p : Tl)
@[simp] theorem tl_name : gFld [0] "name" p.D = some (.val (.str p.name)) := by simp [Tl.D, tillD, tillNs]
@[simp] theorem tl_limit : gFld [0] "limit" p.D = some (.val (.int p.limit)) := by simp [Tl.D, tillD, tillNs]
@[simp] theorem tl_heeds : gFld [0] "heeds" p.D = some (.val (.bl p.heeds)) := by simp [Tl.D, tillD, tillNs]
@[simp] theorem tl_isC {ρ : DEnv} : kIsC 0 p.D ρ = some (.ok (.val (.bl true)) ρ) := by simp [Tl.D, tillD]
end
theorem dhas_names {names : List Str} {x : Str} : dhas key1 (.inr x) (names.map .str) = decide (x ∈ names) := by
  induction names with
  | nil => simp
  | cons a names ih =>
    rw [List.map_cons, dhas_cons, ih]
    by_cases h : a = x
    · subst h; simp
    · simp [h, Ne.symm h]
theorem dlk_in {names : List Str} {vs : List D} {x : Str} (h : vs.length = names.length) : (dlk key1 (names.map .str) vs (.inr x)).isSome = decide (x ∈ names) := by
  induction names generalizing vs with
  | nil => simp
  | cons a names ih =>
    cases vs with
    | nil => simp at h
    | cons v vs =>
      rw [List.map_cons, dlk_cons]
      by_cases e : a = x
      · subst e; simp
      · rw [if_neg (by simpa using e), ih (by simpa using h)]
        simp [Ne.symm e]
theorem v_check_tills {tl : List Tl} (h1 : 1 ≤ tl.length) (h4 : tl.length ≤ 4) (nd : (tl.map Tl.name).Nodup) : m_check_tills [.lst (tl.map Tl.D)] = some (.ok (.val .non)) := by
  have hl : m_is_list [.lst (tl.map Tl.D)] = some (.ok (.val (.bl true))) := by
    simp (disch := tm_at "dj") [m_is_list, isiB]
  have h0 : ¬ tl = [] := fun z => by rw [z] at h1; simp at h1
  have e : enumD (tl.map Tl.D) = tl.zipIdx.map fun p => D.tup [.int (p.2 : Nat), p.1.D] := by
    unfold enumD
    rw [List.zipIdx_map, List.map_map]
    rfl
  have hz : tl.map Tl.name = [] ++ tl.zipIdx.map fun (p : Tl × Nat) => p.1.name := by
    rw [show (fun (p : Tl × Nat) => p.1.name) = Tl.name ∘ Prod.fst from rfl, ← List.map_map]
    simp
  simp [m_check_tills, hl, h0, e]
  obtain ⟨ρ', g1, done, a, b, hes, rfl, _⟩ := for_inv (tf := unD 2 (tgCons (tgN 2) (tgCons (tgN 3) tgNil))) (body := sSeq (sIf (mPeek (fun _ => true) (mOr (mNot (mTest (frz (mIsiC 0 (mVar 3))))) (mTest (frz (mOp gIn (frz (mFld [0] "name" (mVar 3))) (mVar 1)))))) sNever sNx)
    (sPut 1 (frz (mFld [0] "name" (mVar 3))) (mC (.bl true)))) (enc := fun (p : Tl × Nat) => D.tup [.int (p.2 : Nat), p.1.D])
    (fun rest ρ => ∃ done a b, tl.map Tl.name = done ++ rest.map (fun p => p.1.name) ∧ ρ = [.val (.lst (tl.map Tl.D)), .own false (.dct 0 (done.map .str) (done.map fun _ => .bl true)), a, b] ∧ pl a ∧ pl b)
    (fun p rest ρ => by
      rintro ⟨done, a, b, hes, rfl, ha, hb⟩
      rw [List.map_cons] at hes
      have hn : p.1.name ∉ done := fun z => by
        rw [hes] at nd
        have := (List.nodup_append.mp nd).2.2 _ z _ List.mem_cons_self
        exact this rfl
      have hlen : done.length < 1000000 := by
        have : (tl.map Tl.name).length = done.length + (p.1.name :: rest.map (fun p => p.1.name)).length := by rw [hes]; simp
        rw [List.length_map] at this
        omega
      have e1 : gIn (.str p.1.name) (.dct 0 (done.map .str) (done.map fun _ => .bl true)) = some (.val (.bl false)) := by
        have := dlk_in (names := done) (vs := done.map fun _ => D.bl true) (x := p.1.name) (by simp)
        simp only [gIn, inD, dlook_s, Option.map_some, this]
        simp [hn]
      have e2 : dhas key1 (.inr p.1.name) (done.map .str) = false := by rw [dhas_names]; simpa using hn
      refine ⟨_, by simp [e_sCp ha, e_sCp hb]; rfl, _, .inl (by simp [e1, e2, hlen]; rfl), done ++ [p.1.name], .val (.int p.2), .val p.1.D, by simp [hes], by simp, trivial, trivial⟩)
    tl.zipIdx [.val (.lst (tl.map Tl.D)), .own false (.dct 0 [] []), .un, .un] ⟨[], .un, .un, hz, rfl, trivial, trivial⟩
  rw [g1]
  have h5 : (tl.length : Int) ≤ 4 := by omega
  simp
  omega
end Toy

namespace Toy
open PySem PySem.Spec PyProof.Rows L2 Kx Dm
local macro_rules | `(tactic| tm_at "dj") => `(tactic| first | (simp; done) | (simp; omega) | omega)
/-! ### parts and links -/
theorem v_integer_to {i j : Int} (h0 : 0 ≤ i) (h1 : i ≤ j) : m_is_integer_to [.int i, .int j] = some (.ok (.val (.bl true))) := by
  have hi : m_is_integer [.int i] = some (.ok (.val (.bl true))) := by
    simp (disch := tm_at "dj") [m_is_integer, isiB]
  simp [m_is_integer_to, hi, h0, h1]
theorem v_truth {b : Bool} : m_is_truth [.bl b] = some (.ok (.val (.bl true))) := by
  simp [m_is_truth, isiB]
theorem v_is_word {a b : Str} : m_is_word [.str a, .str b] = some (.ok (.val (.bl (a == b)))) := by
  simp [m_is_word, isiB]
theorem v_memory {k : Str} {m : Int} (hk : k = "nothing" ∨ k = "times" ∨ k = "sum") (h0 : 0 ≤ m) (h9 : m ≤ 9) : m_is_memory [memD' k m] = some (.ok (.val (.bl true))) := by
  have vi := v_integer_to h0 h9
  rcases hk with rfl | rfl | rfl <;> simp (disch := tm_at "dj") [m_is_memory, memD', isiB, v_is_word, vi]
theorem v_parts {money tops : Int} {k : Str} {m : Int} {b : Bool} (hk : k = "nothing" ∨ k = "times" ∨ k = "sum") (h0 : 0 ≤ m) (h9 : m ≤ 9) (a0 : 0 ≤ money) (a9 : money ≤ 9) (t0 : 0 ≤ tops) (t5 : tops ≤ 5) :
    m_check_parts [.int money, memD' k m, .int tops, .bl b] = some (.ok (.val .non)) := by
  simp [m_check_parts, v_integer_to a0 a9, v_memory hk h0 h9, v_integer_to t0 t5, v_truth]
theorem in_names {names : List Str} {x : Str} : gIn (.str x) (.lst (names.map .str)) = some (.val (.bl (decide (x ∈ names)))) := by
  have h1 : (names.map D.str).all isF = true := by simp [isF]
  have h2 : ((names.map D.str).any fun d => eqF d (.str x)) = decide (x ∈ names) := by
    induction names with
    | nil => rfl
    | cons a names ih =>
      rw [List.map_cons, List.any_cons, ih (by simp [isF])]
      simp only [eqF, List.mem_cons]
      by_cases e : x = a
      · subst e; simp
      · have : (a == x) = false := by simp; exact fun z => e z.symm
        rw [this]; simp [e]
  show (memD _ _ _).map _ = _
  unfold memD
  rw [if_pos ⟨rfl, h1⟩, h2]
  rfl
theorem v_is_link {names : List Str} {a b : Str} (ha : okName a) (hb : okName b) (ia : a ∈ names) (ib : b ∈ names) (lt : a.cps.toList < b.cps.toList) : m_is_link [.lst (names.map .str), pairD (a, b)] = some (.ok (.val (.bl true))) := by
  simp [m_is_link, pairD, isiB, v_is_name ha, v_is_name hb, in_names, ia, ib, lt]
def pairK (p : Str × Str) : List Key := [.inr p.1, .inr p.2]
@[simp] theorem keyT_pair {p : Str × Str} : keyT (pairD p) = some (pairK p) := .trans rfl rfl
theorem pairK_inj {p q : Str × Str} : pairK p = pairK q ↔ p = q := by
  obtain ⟨a, b⟩ := p
  obtain ⟨c, d⟩ := q
  simp [pairK]
theorem dhas_pairs {ps : List (Str × Str)} {x : Str × Str} : dhas keyT (pairK x) (ps.map pairD) = decide (x ∈ ps) := by
  induction ps with
  | nil => simp
  | cons a ps ih =>
    rw [List.map_cons, dhas_cons, ih, keyT_pair]
    by_cases h : a = x
    · subst h; simp
    · simp [pairK_inj, h, Ne.symm h]
theorem dlk_pairs {ps : List (Str × Str)} {vs : List D} {x : Str × Str} (h : vs.length = ps.length) : (dlk keyT (ps.map pairD) vs (pairK x)).isSome = decide (x ∈ ps) := by
  induction ps generalizing vs with
  | nil => simp
  | cons a ps ih =>
    cases vs with
    | nil => simp at h
    | cons v vs =>
      rw [List.map_cons, dlk_cons, keyT_pair]
      by_cases e : a = x
      · subst e; simp
      · rw [if_neg (by simpa [pairK_inj] using e), ih (by simpa using h)]
        simp [Ne.symm e]
def linkOk (names : List Str) (p : Str × Str) : Prop := okName p.1 ∧ okName p.2 ∧ p.1 ∈ names ∧ p.2 ∈ names ∧ p.1.cps.toList < p.2.cps.toList
theorem v_check_links {names : List Str} {ls : List (Str × Str)} (h : ∀ p ∈ ls, linkOk names p) (nd : ls.Nodup) (hl : ls.length ≤ 1000) : m_check_links [.lst (names.map .str), .lst (ls.map pairD)] = some (.ok (.val .non)) := by
  have hi : m_is_list [.lst (ls.map pairD)] = some (.ok (.val (.bl true))) := by
    simp (disch := tm_at "dj") [m_is_list, isiB]
  have e : enumD (ls.map pairD) = ls.zipIdx.map fun p => D.tup [.int (p.2 : Nat), pairD p.1] := by
    unfold enumD
    rw [List.zipIdx_map, List.map_map]
    rfl
  have hz : ls = [] ++ ls.zipIdx.map fun (p : (Str × Str) × Nat) => p.1 := by simp
  simp [m_check_links, hi, e]
  obtain ⟨ρ', g1, done, a, b, hes, rfl, _⟩ := for_inv (tf := unD 2 (tgCons (tgN 3) (tgCons (tgN 4) tgNil))) (body := sSeq (sIf (mPeek (fun _ => true) (mOr (mNot (mTest (frz (mCall m_is_link (mCons (mVar 0) (mCons (mVar 4) mNil)))))) (mTest (frz (mOp gIn (mVar 4) (mVar 2)))))) sNever sNx)
    (sPut 2 (mVar 4) (mC (.bl true)))) (enc := fun (p : (Str × Str) × Nat) => D.tup [.int (p.2 : Nat), pairD p.1])
    (fun rest ρ => ∃ done a b, ls = done ++ rest.map (fun p => p.1) ∧ ρ = [.val (.lst (names.map .str)), .val (.lst (ls.map pairD)), .own false (.dct 1 (done.map pairD) (done.map fun _ => .bl true)), a, b] ∧ pl a ∧ pl b)
    (fun p rest ρ => by
      rintro ⟨done, a, b, hes, rfl, ha, hb⟩
      rw [List.map_cons] at hes
      have hm : p.1 ∈ ls := by rw [hes]; simp
      have hn : p.1 ∉ done := fun z => by
        rw [hes] at nd
        exact (List.nodup_append.mp nd).2.2 _ z _ List.mem_cons_self rfl
      have hlen : done.length < 1000000 := by
        have := congrArg List.length hes
        rw [List.length_append] at this
        omega
      obtain ⟨o1, o2, o3, o4, o5⟩ := h _ hm
      have vl := v_is_link o1 o2 o3 o4 o5
      have e1 : gIn (pairD p.1) (.dct 1 (done.map pairD) (done.map fun _ => .bl true)) = some (.val (.bl false)) := by
        have := dlk_pairs (ps := done) (vs := done.map fun _ => D.bl true) (x := p.1) (by simp)
        show ((dlook 1 (done.map pairD) (done.map fun _ => D.bl true) (pairD p.1)).map (·.isSome)).map (fun b => Cell.val (.bl b)) = _
        show (((keyT (pairD p.1)).map (dlk keyT (done.map pairD) (done.map fun _ => D.bl true))).map (·.isSome)).map (fun b => Cell.val (.bl b)) = _
        rw [keyT_pair, Option.map_some, Option.map_some, this]
        simp [hn]
      have e2 : dput 1 (done.map pairD) (done.map fun _ => .bl true) (pairD p.1) (.bl true) = some (done.map pairD ++ [pairD p.1], (done.map fun _ => D.bl true) ++ [.bl true]) := by
        show (keyT (pairD p.1)).map (fun k => dputG keyT k (done.map pairD) (done.map fun _ => D.bl true) (pairD p.1) (.bl true)) = _
        rw [keyT_pair, Option.map_some, dputG_new (by rw [dhas_pairs]; simpa using hn)]
      refine ⟨_, by simp [e_sCp ha, e_sCp hb]; rfl, _, .inl (by simp [vl, e1, e2, hlen]; rfl), done ++ [p.1], .val (.int p.2), .val (pairD p.1), by simp [← hes], by simp, trivial, trivial⟩)
    ls.zipIdx [.val (.lst (names.map .str)), .val (.lst (ls.map pairD)), .own false (.dct 1 [] []), .un, .un] ⟨[], .un, .un, hz, rfl, trivial, trivial⟩
  rw [g1]
  simp
end Toy

namespace Dm
open PySem PySem.Spec PyProof.Rows L2
/-- a comprehension of two fors -/
theorem lc2_pure {α β : Type} {vs vs1 : List Nat} {tf tf1 : D → DEnv → Option DEnv} {it1 : DEnv → M (List D)} {tt1 : DEnv → M Bool} {te : DEnv → M D} {enc : α → D} {enc1 : β → D} (p : α → β → Bool) (f : α → β → D) {ρ : DEnv} {ys : List β} : ∀ (xs : List α) (acc : List D),
    (∀ x ∈ xs, ∃ ρ1, tf (enc x) (wipeC ρ vs) = some ρ1 ∧ it1 ρ1 = some (.ok (ys.map enc1) ρ1) ∧ wipeC (wipeC ρ1 vs1) vs = ρ ∧
      ∀ y ∈ ys, ∃ ρ2, tf1 (enc1 y) (wipeC (wipeC ρ1 vs1) vs1) = some ρ2 ∧ wipeC ρ2 vs1 = wipeC ρ1 vs1 ∧ tt1 ρ2 = some (.ok (p x y) ρ2) ∧ (p x y = true → te ρ2 = some (.ok (f x y) ρ2))) →
    acc.length + xs.length * ys.length ≤ 1000000 →
    lc2Go vs vs1 tf mYes it1 tf1 tt1 te (xs.map enc) ρ acc = some (acc ++ xs.flatMap (fun x => (ys.filter (p x)).map (f x)), ρ)
  | [], acc, _, _ => by simp [lc2Go]
  | x :: xs, acc, h, hl => by
    obtain ⟨ρ1, h1, h2, h3, h4⟩ := h x List.mem_cons_self
    rw [List.length_cons, Nat.succ_mul] at hl
    have ih := fun acc => lc2_pure (it1 := it1) (tf1 := tf1) (tt1 := tt1) (te := te) (vs1 := vs1) (enc1 := enc1) p f xs acc (fun y hy => h y (List.mem_cons_of_mem _ hy))
    have inner := lc_pure (vs := vs1) (tf := tf1) (tt := tt1) (te := te) (enc := enc1) (p x) (f x) (ρ := wipeC ρ1 vs1) ys acc h4 (by omega)
    have hf : ((ys.filter (p x)).map (f x)).length ≤ ys.length := by rw [List.length_map]; exact List.length_filter_le _ _
    simp only [List.map_cons, lc2Go, h1, e_mYes, h2]
    rw [inner]
    simp only
    rw [h3, ih _ (by rw [List.length_append]; omega)]
    simp
end Dm
namespace Toy
open PySem PySem.Spec PyProof.Rows L2 Kx Dm
local macro_rules | `(tactic| tm_at "dj") => `(tactic| first | (simp; done) | (simp; omega) | omega)
theorem in_pairs {ls : List (Str × Str)} {p : Str × Str} (hs : ∀ q ∈ ls, PyData.strOk q.1 = true ∧ PyData.strOk q.2 = true) (hp : PyData.strOk p.1 = true ∧ PyData.strOk p.2 = true) : gIn (pairD p) (.lst (ls.map pairD)) = some (.val (.bl (decide (p ∈ ls)))) := by
  have e1 : toPys (ls.map pairD) = some (ls.map fun q => PyData.tuple [.str q.1, .str q.2]) := by
    induction ls with
    | nil => rfl
    | cons q ls ih =>
      rw [List.map_cons, toPys, ih fun r hr => hs r (List.mem_cons_of_mem _ hr)]
      rfl
  have e2 : toPy (pairD p) = some (.tuple [.str p.1, .str p.2]) := rfl
  have s1 : SeqAt.shaped (.tuple [.str p.1, .str p.2]) = true := shaped_of (by simp [PyData.canLay0, PyData.canLayAll0, hp]) (by simp [PyData.depth, PyData.depthAll])
  have s2 : SeqAt.shaped (.list (ls.map fun q => PyData.tuple [.str q.1, .str q.2])) = true := by
    have ok : okD 64 (.lst (ls.map pairD)) = true := okD_flat (n := 63) fun q hq => by
      obtain ⟨a, b⟩ := hs q hq
      simp [pairD, okD, a, b]
    obtain ⟨py, a1, a2, a3⟩ := toPy_of 64 _ ok
    simp only [toPy, e1, Option.map_some] at a1
    cases a1
    exact shaped_of a2 a3
  have e3 : ((ls.map fun q => PyData.tuple [.str q.1, .str q.2]).any fun z => PyData.eqv z (.tuple [.str p.1, .str p.2])) = decide (p ∈ ls) := by
    clear e1 s2
    induction ls with
    | nil => rfl
    | cons q ls ih =>
      rw [List.map_cons, List.any_cons, ih fun r hr => hs r (List.mem_cons_of_mem _ hr)]
      obtain ⟨a, b⟩ := p
      obtain ⟨c, d⟩ := q
      simp only [PyData.eqv, PyData.eqvAll, Bool.and_true]
      by_cases h : (a, b) = (c, d)
      · cases h; simp
      · have : (c == a && d == b) = false := by
          rw [Bool.and_eq_false_iff]
          by_cases h1 : c = a
          · right
            subst h1
            simp
            exact fun z => h (by rw [z])
          · left; simpa using h1
        rw [this]
        simp [h]
  show (memD _ _ _).map _ = _
  unfold memD
  rw [if_neg (by intro z; cases z.1), if_pos rfl, e1, e2]
  simp only
  rw [if_pos ⟨s1, s2⟩, e3]
  rfl
/-- the links as a town keeps them -/
def ascL (names : List Str) (ls : List (Str × Str)) : List (Str × Str) := (sortS names).flatMap fun a => ((sortS names).filter fun b => decide ((a, b) ∈ ls)).map fun b => (a, b)
theorem v_ascending {names : List Str} {ls : List (Str × Str)} (hn : names.length ≤ 10) (hs : ∀ q ∈ ls, PyData.strOk q.1 = true ∧ PyData.strOk q.2 = true) (ho : ∀ x ∈ sortS names, PyData.strOk x = true) (hl : (sortS names).length ≤ 10) :
    m_ascending_links [.lst (names.map .str), .lst (ls.map pairD)] = some (.ok (.val (.tup ((ascL names ls).map pairD)))) := by
  simp [m_ascending_links]
  rw [lc_map (f := D.str)]
  · have e : gSorted [.lst (names.map .str)] = some (.own false (.lst ((sortS names).map .str))) := by
      unfold gSorted
      simp only [List.length_map]
      rw [if_pos (by omega), strsD_map]
      cases names with
      | nil => rfl
      | cons a names => rfl
    simp [e]
    rw [lc2_pure (enc := D.str) (enc1 := D.str) (ys := sortS names) (fun a b => decide ((a, b) ∈ ls)) (fun a b => pairD (a, b))]
    · simp [ascL, List.map_flatMap, Function.comp_def]
    · intro x hx
      refine ⟨_, rfl, by simp, rfl, fun y hy => ⟨_, rfl, rfl, ?_, fun _ => by simp [pairD]⟩⟩
      have := in_pairs (p := (x, y)) hs ⟨ho x hx, ho y hy⟩
      simp [pairD] at this
      simp [this]
    · have : (sortS names).length * (sortS names).length ≤ 10 * 10 := Nat.mul_le_mul hl hl
      simp
      omega
  · intro x hx
    exact ⟨_, rfl, rfl, by simp⟩
  · omega
end Toy

namespace Toy
open PySem PySem.Spec PyProof.Rows L2 Kx Dm
local macro_rules | `(tactic| tm_at "dj") => `(tactic| first | (simp; done) | (simp; omega) | omega)
/-- a dict comprehension whose keys are texts, each once -/
theorem dc_names {α : Type} {vs : List Nat} {tf : D → DEnv → Option DEnv} {tk te : DEnv → M D} {enc : α → D} (key : α → Str) (val : α → D) {ρ : DEnv} : ∀ (xs : List α) (done : List Str) (us : List D),
    (∀ x ∈ xs, ∃ ρ1, tf (enc x) (wipeC ρ vs) = some ρ1 ∧ wipeC ρ1 vs = ρ ∧ tk ρ1 = some (.ok (.str (key x)) ρ1) ∧ te ρ1 = some (.ok (val x) ρ1)) → (done ++ xs.map key).Nodup → done.length + xs.length ≤ 1000000 →
    dcGo vs tf mYes tk te (xs.map enc) ρ (done.map .str) us = some (((done ++ xs.map key).map .str, us ++ xs.map val), ρ)
  | [], done, us, _, _, _ => by simp [dcGo]
  | x :: xs, done, us, h, nd, hl => by
    obtain ⟨ρ1, h1, h2, h3, h4⟩ := h x List.mem_cons_self
    rw [List.length_cons] at hl
    have hn : key x ∉ done := fun z => by
      rw [List.map_cons] at nd
      exact (List.nodup_append.mp nd).2.2 _ z _ List.mem_cons_self rfl
    have ih := dc_names key val xs (done ++ [key x]) (us ++ [val x]) (fun y hy => h y (List.mem_cons_of_mem _ hy)) (by simpa using nd) (by simp; omega)
    have hp : dput 0 (done.map .str) us (.str (key x)) (val x) = some (done.map .str ++ [.str (key x)], us ++ [val x]) := by
      rw [dput_s, dputG_new (by rw [dhas_names]; simpa using hn)]
    simp only [List.map_cons, dcGo, h1, e_mYes, h3, h4, hp]
    rw [if_pos (by rw [List.length_map, e_big]; omega)]
    rw [List.map_append] at ih
    rw [h2]
    simpa using ih
theorem dc_names0 {α : Type} {vs : List Nat} {tf : D → DEnv → Option DEnv} {tk te : DEnv → M D} {enc : α → D} (key : α → Str) (val : α → D) {ρ : DEnv} {xs : List α}
    (h : ∀ x ∈ xs, ∃ ρ1, tf (enc x) (wipeC ρ vs) = some ρ1 ∧ wipeC ρ1 vs = ρ ∧ tk ρ1 = some (.ok (.str (key x)) ρ1) ∧ te ρ1 = some (.ok (val x) ρ1)) (nd : (xs.map key).Nodup) (hl : xs.length ≤ 1000000) :
    dcGo vs tf mYes tk te (xs.map enc) ρ [] [] = some (((xs.map key).map .str, xs.map val), ρ) := by
  have := dc_names key val xs [] [] h (by simpa using nd) (by simpa using hl)
  simpa using this
def townNs : List Str := ["_tills", "_by_name", "links", "money", "memory", "tops", "numbered"]
def townD (tl : List Tl) (ls : List (Str × Str)) (money tops : Int) (k : Str) (m : Int) (b : Bool) : D :=
  .ins 1 townNs [.tup (tl.map Tl.D), .dct 0 ((tl.map Tl.name).map .str) (tl.map Tl.D), .tup ((ascL (tl.map Tl.name) ls).map pairD), .int money, memD' k m, .int tops, .bl b]
theorem v_town {tl : List Tl} {ls : List (Str × Str)} {money tops m : Int} {k : Str} {b : Bool} (h1 : 1 ≤ tl.length) (h4 : tl.length ≤ 4) (nd : (tl.map Tl.name).Nodup)
    (hl : ∀ p ∈ ls, linkOk (tl.map Tl.name) p) (ndl : ls.Nodup) (hll : ls.length ≤ 1000) (hk : k = "nothing" ∨ k = "times" ∨ k = "sum") (m0 : 0 ≤ m) (m9 : m ≤ 9) (a0 : 0 ≤ money) (a9 : money ≤ 9) (t0 : 0 ≤ tops) (t5 : tops ≤ 5)
    (hs : ∀ q ∈ ls, PyData.strOk q.1 = true ∧ PyData.strOk q.2 = true) (ho : ∀ x ∈ sortS (tl.map Tl.name), PyData.strOk x = true) (hsl : (sortS (tl.map Tl.name)).length ≤ 10) :
    m_Town_init [.ins 1 [] [], .lst (tl.map Tl.D), .lst (ls.map pairD), .int money, memD' k m, .int tops, .bl b] = some (.ok (.val .non, townD tl ls money tops k m b)) := by
  have v1 := v_check_tills h1 h4 nd
  have v2 := v_check_links hl ndl hll
  have v3 := v_parts (b := b) hk m0 m9 a0 a9 t0 t5
  have v4 := v_ascending (names := tl.map Tl.name) (ls := ls) (by rw [List.length_map]; omega) hs ho hsl
  rw [List.map_map] at v2 v4
  simp [m_Town_init, v1]
  rw [lc_map (f := fun p => D.str p.name)]
  · rw [show (fun p => D.str (Tl.name p)) = D.str ∘ Tl.name from rfl]
    simp [v2, v3]
    rw [dc_names0 (enc := Tl.D) Tl.name Tl.D ?_ nd (by omega)]
    · simp [v4, townD, townNs]
    · intro p hp
      exact ⟨_, rfl, rfl, by simp, by simp⟩
  · intro p hp
    exact ⟨_, rfl, rfl, by simp⟩
  · omega
end Toy

namespace Toy
open PySem PySem.Spec PyProof.Rows L2 Kx Dm
local macro_rules | `(tactic| tm_at "dj") => `(tactic| first | (simp; done) | (simp; omega) | omega)
def Tn.tills (t : Tn) : List Tl := (List.range t.names.length).map fun k => ⟨nm t.names k, t.limits.getD k 0, t.heeds.getD k false⟩
theorem tills_names {t : Tn} : t.tills.map Tl.name = t.names := by
  unfold Tn.tills
  rw [List.map_map]
  exact names_range t.names
/-- what a plan must keep so that the town is taken -/
structure Tn.fits (t : Tn) (n : Nat) : Prop where
  ok : t.ok n
  n1 : 1 ≤ n
  n4 : n ≤ 4
  nms : ∀ x ∈ t.names, okName x
  lims : ∀ k, k < n → 0 ≤ t.limits.getD k 0 ∧ t.limits.getD k 0 ≤ 9
  lks : ∀ p ∈ t.links, linkOk t.names p
  ndl : t.links.Nodup
  lll : t.links.length ≤ 1000
  m0 : 0 ≤ t.most ∧ t.most ≤ 9
  a0 : 0 ≤ t.money ∧ t.money ≤ 9
  t0 : 0 ≤ t.tops ∧ t.tops ≤ 5
  los : ∀ q ∈ t.links, PyData.strOk q.1 = true ∧ PyData.strOk q.2 = true
  srt : ∀ x ∈ sortS t.names, PyData.strOk x = true
  srl : (sortS t.names).length ≤ 10
def Tn.town (t : Tn) : Dm.D := townD t.tills t.links t.money t.tops t.kind t.most t.numbered
theorem rngD_eq (n : Nat) : rngD 0 n = (List.range n).map fun (i : Nat) => D.int (i : Nat) := by
  unfold rngD
  simp
theorem v_made {t : Tn} {n : Nat} (h : t.fits n) : m__law_made [t.D] = some (.ok (.own false t.town)) := by
  have hn := h.ok.names
  have h4 := h.n4
  have e1 : (n : Int).toNat = n := by omega
  have e2 : small62 (n : Int) = true := by
    unfold small62
    rw [Bool.and_eq_true]
    constructor <;> apply decide_eq_true <;> omega
  have vt := v_town (tl := t.tills) (ls := t.links) (money := t.money) (tops := t.tops) (m := t.most) (k := t.kind) (b := t.numbered)
    (by unfold Tn.tills; rw [List.length_map, List.length_range, hn]; exact h.n1) (by unfold Tn.tills; rw [List.length_map, List.length_range, hn]; exact h.n4) (by rw [tills_names]; exact h.ok.nd)
    (by rw [tills_names]; exact h.lks) h.ndl h.lll h.ok.kind h.m0.1 h.m0.2 h.a0.1 h.a0.2 h.t0.1 h.t0.2 h.los (by rw [tills_names]; exact h.srt) (by rw [tills_names]; exact h.srl)
  simp [m__law_made, hn, e2, rngD_eq]
  rw [lc_map (f := fun k => (Tl.D ⟨nm t.names k, t.limits.getD k 0, t.heeds.getD k false⟩))]
  · have e3 : ((List.range n).map fun k => (Tl.D ⟨nm t.names k, t.limits.getD k 0, t.heeds.getD k false⟩)) = t.tills.map Tl.D := by
      unfold Tn.tills
      rw [List.map_map, hn]
      rfl
    rw [e3]
    simp [vt]
    rfl
  · intro k hk
    have hk : k < n := List.mem_range.mp hk
    obtain ⟨l0, l9⟩ := h.lims k hk
    have a1 := nm_at (names := t.names) (k := k) (by omega)
    have a2 := i_at (xs := t.limits) (k := k) (by rw [h.ok.limits]; exact hk)
    have a3 := b_at (xs := t.heeds) (k := k) (by rw [h.ok.heeds]; exact hk)
    have v := v_till (x := nm t.names k) (b := t.heeds.getD k false) (h.nms _ (List.mem_of_getElem? a1)) l0 l9
    refine ⟨_, rfl, rfl, ?_⟩
    simp [a1, a2, a3, v, -List.getD_eq_getElem?_getD]
    rfl
  · simp; omega
end Toy

namespace Toy
open PySem PySem.Spec PyProof.Rows L2 Kx Dm
local macro_rules | `(tactic| tm_at "dj") => `(tactic| first | (simp; done) | (simp; omega) | omega)
section
variable (t : Tn)
@[simp] theorem tw_tills : gFld [1] "_tills" t.town = some (.val (.tup (t.tills.map Tl.D))) := by simp [Tn.town, townD, townNs]
@[simp] theorem tw_by : gFld [1] "_by_name" t.town = some (.val (.dct 0 (t.names.map .str) (t.tills.map Tl.D))) := by simp [Tn.town, townD, townNs, tills_names]
@[simp] theorem tw_links : gFld [1] "links" t.town = some (.val (.tup ((ascL t.names t.links).map pairD))) := by simp [Tn.town, townD, townNs, tills_names]
@[simp] theorem tw_memory : gFld [1] "memory" t.town = some (.val (memD' t.kind t.most)) := by simp [Tn.town, townD, townNs]
@[simp] theorem tw_numbered : gFld [2, 1] "numbered" t.town = some (.val (.bl t.numbered)) := by simp [Tn.town, townD, townNs]
@[simp] theorem tw_meth {nm : Str} {m : Fn} {g : DEnv → M (List D)} {ρ : DEnv} (h : nm ∉ townNs) : kMeth 1 nm m g t.town ρ = bnd (g ρ) (kMeth2 m t.town) := e_kMeth h
end
theorem v_names {t : Tn} {n : Nat} (h : t.ok n) : m_Town_names [t.town] = some (.ok (.own false (.lst (t.names.map .str)))) := by
  have := h.names
  have := h.ten
  simp [m_Town_names]
  rw [lc_map (f := fun p => D.str p.name)]
  · have e : t.tills.map (fun p => D.str (Tl.name p)) = t.names.map .str := by
      rw [show (fun p => D.str (Tl.name p)) = D.str ∘ Tl.name from rfl, ← List.map_map, tills_names]
    simp [e]
  · intro p hp
    exact ⟨_, rfl, rfl, by simp⟩
  · unfold Tn.tills; simp; omega
theorem v_most {k : Str} {m : Int} (hk : k = "nothing" ∨ k = "times" ∨ k = "sum") : m_most_remembered [memD' k m] = some (.ok (.val (.int (if k = "nothing" then 0 else m)))) := by
  rcases hk with rfl | rfl | rfl <;> simp [m_most_remembered, memD']
theorem lc_two {vs : List Nat} {te : DEnv → M D} {ρ : DEnv} {tf : D → DEnv → Option DEnv} (f : Int → D) (h : ∀ x ∈ [(1 : Int), 2], ∃ ρ1, tf (.int x) (wipeC ρ vs) = some ρ1 ∧ wipeC ρ1 vs = ρ ∧ te ρ1 = some (.ok (f x) ρ1)) :
    lcGo vs tf mYes te [.int 1, .int 2] ρ [] = some ([f 1, f 2], ρ) := lc_map (enc := D.int) f (xs := [1, 2]) h (by decide)
theorem v_events {t : Tn} {n : Nat} (h : t.ok n) : m_events_of [t.town] = some (.ok (.own false (.lst ((evs n).map (Ev.D t.names) ++ t.names.map againD)))) := by
  have hn := h.names
  have h10 := h.ten
  have hD := @evs_D t.names
  rw [hn] at hD
  have vn := v_names h
  simp [m_events_of, vn, townNs]
  rw [lc_map (f := fun x => D.tup [.str "cut", .str x])]
  · simp
    rw [lc_map (f := fun x => D.tup [.str "line", .str x])]
    · simp (disch := tm_at "dj")
      rw [lc2_pure (enc := D.str) (enc1 := D.int) (ys := [1, 2]) (fun _ _ => true) (fun x u => D.tup [.str "pay", .str x, .int u])]
      · have hl : (t.names.flatMap (fun x => [D.tup [.str "pay", .str x, .int 1], D.tup [.str "pay", .str x, .int 2]])).length = 2 * t.names.length := by
          simp [List.length_flatMap, sum_two]
        simp (disch := first | (simp; done) | (simp [List.length_flatMap, sum_two]; omega))
        rw [lc_two (fun u => D.tup [.str "top", .int u])]
        · simp (disch := first | (simp; done) | (simp [List.length_flatMap, sum_two]; omega))
          rw [lc_map (f := againD)]
          · simp (disch := first | (simp; done) | (simp [List.length_flatMap, sum_two]; omega))
            rw [hD]
            simp
          · intro x hx; exact ⟨_, rfl, rfl, by simp [againD]⟩
          · omega
        · intro x hx; exact ⟨_, rfl, rfl, by simp⟩
      · intro x hx
        exact ⟨_, rfl, rfl, rfl, fun y hy => ⟨_, rfl, rfl, rfl, fun _ => by simp⟩⟩
      · simp; omega
    · intro x hx; exact ⟨_, rfl, rfl, by simp⟩
    · omega
  · intro x hx; exact ⟨_, rfl, rfl, by simp⟩
  · omega
end Toy

namespace Toy
open PySem PySem.Spec PyProof.Rows L2 Kx Dm
local macro_rules | `(tactic| tm_at "dj") => `(tactic| first | (simp; done) | (simp; omega) | omega)
/-! ### what holds of the states that come is kept -/
section
variable {L : Lay} {s : St} {n k : Nat} {u : Int}
theorem getD_set_b {xs : List Bool} {k i : Nat} {b : Bool} (h : k < xs.length) : (xs.set k b).getD i false = if i = k then b else xs.getD i false := by
  rw [List.getD_eq_getElem?_getD, List.getElem?_set, List.getD_eq_getElem?_getD]
  by_cases e : k = i
  · subst e; simp [h]
  · simp [e, Ne.symm e]
theorem getD_set_i {xs : List Int} {k i : Nat} {b : Int} (h : k < xs.length) : (xs.set k b).getD i 0 = if i = k then b else xs.getD i 0 := by
  rw [List.getD_eq_getElem?_getD, List.getElem?_set, List.getD_eq_getElem?_getD]
  by_cases e : k = i
  · subst e; simp [h]
  · simp [e, Ne.symm e]
theorem getD_setAll {g : List Nat} {b : Bool} {xs : List Bool} {i : Nat} (h : i < xs.length) : (setAll g b xs).getD i false = if i ∈ g then b else xs.getD i false := by
  rw [List.getD_eq_getElem?_getD, setAll_at h]; rfl
/-- groups: one is in one's own; who is in another's has the same -/
structure Eqv (L : Lay) (n : Nat) : Prop where
  self : ∀ k, k < n → k ∈ L.gr k
  same : ∀ k i, k < n → i ∈ L.gr k → L.gr i = L.gr k
theorem any_of {g : List Nat} : s.anyL g = true ↔ ∃ i ∈ g, s.lines.getD i false = true := by
  unfold St.anyL
  rw [List.any_eq_true]
theorem Good.cut (h : L.ok n) (hE : Eqv L n) (hs : Good L n s) (hk : k < n) (hc : s.lines.getD k false = true) : Good L n (L.cut s k) := by
  obtain ⟨l1, l2, l3⟩ := hs.ok
  have ln : ∀ i, (s.lines.set k false).getD i false = true → s.lines.getD i false = true := fun i hi => by
    rw [getD_set_b (by omega)] at hi
    split at hi
    · cases hi
    · exact hi
  refine ⟨⟨by show (s.lines.set k false).length = n; rw [List.length_set]; exact l1, l2, ?_⟩, fun i hi => hs.un i (ln i hi), fun j hj ha i hi => ?_, hs.lt, hs.tp, hs.rm⟩
  · show (if _ = true then s.heard else setAll _ _ s.heard).length = n
    split
    · exact l3
    · rw [setAll_len]; exact l3
  · obtain ⟨m, hm, hl⟩ := any_of.mp ha
    have hl' := ln m hl
    have a0 : s.anyL (L.gr j) = true := any_of.mpr ⟨m, hm, hl'⟩
    have e0 := hs.he j hj a0 i hi
    show (if ({ s with lines := s.lines.set k false } : St).anyL (L.gr k) = true then s.heard else setAll (L.gr k) s.stopped s.heard).getD i false = false
    split
    · exact e0
    · rename_i hn
      have hin : i < s.heard.length := by have := (gr_mem h hj).2 i hi; omega
      rw [getD_setAll hin]
      split
      · rename_i hik
        exfalso
        apply hn
        have e1 := hE.same k i hk hik
        have e2 := hE.same j i hj hi
        rw [any_of]
        exact ⟨m, by rw [← e1, e2]; exact hm, hl⟩
      · exact e0
theorem Good.line (h : L.ok n) (hE : Eqv L n) (hs : Good L n s) (hk : k < n) : Good L n (L.line s k) := by
  obtain ⟨l1, l2, l3⟩ := hs.ok
  refine ⟨⟨by show (s.lines.set k true).length = n; rw [List.length_set]; exact l1, by show (s.untold.set k 0).length = n; rw [List.length_set]; exact l2, by show (setAll _ _ s.heard).length = n; rw [setAll_len]; exact l3⟩, fun i hi => ?_, fun j hj ha i hi => ?_, hs.lt, hs.tp, hs.rm⟩
  · have hi : (s.lines.set k true).getD i false = true := hi
    show (s.untold.set k 0).getD i 0 = 0
    rw [getD_set_i (by omega)]
    rw [getD_set_b (by omega)] at hi
    split
    · rfl
    · rename_i e
      rw [if_neg e] at hi
      exact hs.un i hi
  · have hin : i < s.heard.length := by have := (gr_mem h hj).2 i hi; omega
    show (setAll (L.gr k) false s.heard).getD i false = false
    rw [getD_setAll hin]
    split
    · rfl
    · rename_i hik
      obtain ⟨m, hm, hl⟩ := any_of.mp ha
      have hl : (s.lines.set k true).getD m false = true := hl
      rw [getD_set_b (by omega)] at hl
      split at hl
      · rename_i e
        subst e
        exfalso
        apply hik
        rw [hE.same j m hj hm]
        exact hi
      · exact hs.he j hj (any_of.mpr ⟨m, hm, hl⟩) i hi
theorem Good.pay (h : L.ok n) (hs : Good L n s) (hk : k < n) : Good L n (L.pay s k u) := by
  obtain ⟨l1, l2, l3⟩ := hs.ok
  unfold Lay.pay
  split
  · exact hs
  · split
    · exact ⟨⟨l1, l2, l3⟩, hs.un, hs.he, hs.lt, hs.tp, fun _ => rfl⟩
    · rename_i c1 c2
      refine ⟨⟨l1, by show (s.untold.set k _).length = n; rw [List.length_set]; exact l2, l3⟩, fun i hi => ?_, hs.he, hs.lt, hs.tp, fun z => ?_⟩
      · show (s.untold.set k _).getD i 0 = 0
        rw [getD_set_i (by omega)]
        split
        · rename_i e
          subst e
          exact absurd hi c2
        · exact hs.un i hi
      · show s.rem + L.cost u = 0
        rw [hs.rm z]
        unfold Lay.cost
        rw [if_pos z]; rfl
theorem Good.top (hs : Good L n s) (hc : u ≤ s.tops) (h0 : 0 < u) : Good L n (s.top u) :=
  ⟨hs.ok, hs.un, hs.he, fun z => by
    have := hs.lt z
    omega, by show 0 ≤ s.tops - u; omega, hs.rm⟩
theorem Good.loss (hs : Good L n s) : Good L n s.loss := ⟨hs.ok, hs.un, hs.he, fun _ => rfl, by show (0 : Int) ≤ 0; omega, hs.rm⟩
theorem Good.move (h : L.ok n) (hE : Eqv L n) (hs : Good L n s) {e : Ev} (he : e.ok n) (hc : can s e = true) (hu : ∀ u, e = .top u → 0 < u) : Good L n (L.move s e).1 := by
  cases e with
  | cut k => exact hs.cut h hE he hc
  | line k => exact hs.line h hE he
  | pay k u => exact hs.pay h he
  | top u => exact hs.top (by simpa [can] using hc) (hu u rfl)
  | lose => exact hs.loss
end
end Toy

namespace Toy
open PySem PySem.Spec PyProof.Rows L2 Kx Dm
local macro_rules | `(tactic| tm_at "dj") => `(tactic| first | (simp; done) | (simp; omega) | omega)
@[simp] theorem isF_i {i : Int} : isF (.int i) = true := .trans rfl rfl
@[simp] theorem isF_b {i : Bool} : isF (.bl i) = true := .trans rfl rfl
@[simp] theorem isF_s {i : Str} : isF (.str i) = true := .trans rfl rfl
@[simp] theorem isF_n : isF .non = true := .trans rfl rfl
/-! ### draws -/
structure Pl where
  x : Int
  z : Int
def Pl.D (p : Pl) : Dm.D := .lst [.int p.x, .int p.z]
def nextZ (z : Int) : Int := (z * 48271 + 11) % 2147483647
def Pl.draw (p : Pl) (m : Int) : Int := if 0 < p.x then p.x % m else nextZ p.z * nextZ p.z % 2147483629 / 16 % m
def Pl.next (p : Pl) (m : Int) : Pl := if 0 < p.x then ⟨p.x / m, p.z⟩ else ⟨p.x, nextZ p.z⟩
theorem nextZ_in (z : Int) : 0 ≤ nextZ z ∧ nextZ z < 2147483647 := ⟨Int.emod_nonneg _ (by decide), Int.emod_lt_of_pos _ (by decide)⟩
theorem draw_in (p : Pl) {m : Int} (h : 0 < m) : 0 ≤ p.draw m ∧ p.draw m < m := by
  unfold Pl.draw
  split <;> exact ⟨Int.emod_nonneg _ (by omega), Int.emod_lt_of_pos _ h⟩
theorem v_draw {p : Pl} {m : Int} (h : 0 < m) (h2 : m < 1073741824) : m__law_draw [p.D, .int m] = some (.ok (.val (.int (p.draw m)), (p.next m).D)) := by
  obtain ⟨z0, z1⟩ := nextZ_in p.z
  unfold Pl.draw Pl.next Pl.D
  have e1 : ixN 2 0 = some 0 := rfl
  have e2 : ixN 2 1 = some 1 := rfl
  have g1 : gMul (.int p.z) (.int 48271) = some (.val (.int (p.z * 48271))) := g_mul2 (by decide) (by decide)
  have g2 : gMul (.int (nextZ p.z)) (.int (nextZ p.z)) = some (.val (.int (nextZ p.z * nextZ p.z))) := g_mul2 (by omega) (by omega)
  by_cases hx : 0 < p.x
  · simp [m__law_draw, hx, h, h2, e1, e2]
  · have e3 : (p.z * 48271 + 11) % 2147483647 = nextZ p.z := rfl
    simp [m__law_draw, hx, h, h2, e1, e2, g1, e3, g2]
theorem v_pick {p : Pl} {xs : List D} {d : D} (h1 : 1 ≤ xs.length) (h2 : xs.length ≤ 100000) (hd : xs[(p.draw xs.length).toNat]? = some d) : m__law_pick [p.D, .lst xs] = some (.ok (.val d, (p.next xs.length).D)) := by
  have v := v_draw (p := p) (m := xs.length) (by omega) (by omega)
  obtain ⟨r0, r1⟩ := draw_in p (m := xs.length) (by omega)
  have e : atI xs (p.draw xs.length) = some d := by rw [at_some r0]; exact hd
  simp [m__law_pick, v, e]
theorem pick_some {p : Pl} {xs : List D} (h1 : 1 ≤ xs.length) : ∃ d, xs[(p.draw xs.length).toNat]? = some d ∧ d ∈ xs := by
  obtain ⟨r0, r1⟩ := draw_in p (m := xs.length) (by omega)
  have hl : (p.draw xs.length).toNat < xs.length := by omega
  exact ⟨xs[(p.draw xs.length).toNat], by rw [List.getElem?_eq_getElem hl], List.getElem_mem hl⟩
end Toy

namespace Toy
open PySem PySem.Spec PyProof.Rows L2 Kx Dm
local macro_rules | `(tactic| tm_at "dj") => `(tactic| first | (simp; done) | (simp; omega) | omega)
/-! ### the pool, the first state -/
@[simp] theorem g_sumTake {ns : List Int} {n : Nat} : gSum [.lst ((ns.map D.int).take n)] = some (.val (.int (ns.take n).sum)) := by
  rw [← List.map_take]; exact g_sum
theorem v_pool {ns : List Int} {k : Nat} (hk : k ≤ 100) : ∃ p : Pl, m__law_pool [.scr ns, .int k] = some (.ok (.own false p.D)) := by
  have hm1 : ∀ j : Int, gMul (.int 7) (.int j) = some (.val (.int (7 * j))) := fun j => g_mul1 (by decide) (by decide)
  have hm2 : ∀ j : Int, gMul (.int 7919) (.int j) = some (.val (.int (7919 * j))) := fun j => g_mul1 (by decide) (by decide)
  have hm3 : ∀ j : Int, gMul (.int 31) (.int j) = some (.val (.int (31 * j))) := fun j => g_mul1 (by decide) (by decide)
  have hm4 : ∀ j : Int, gMul (.int j) (.int k) = some (.val (.int (j * k))) := fun j => g_mul2 (by omega) (by omega)
  have hm5 : ∀ j : Int, gMul (.int j) (.int 48271) = some (.val (.int (j * 48271))) := fun j => g_mul2 (by decide) (by decide)
  have hm6 : ∀ (j : Int) (c : Prop) [Decidable c], gMul (.int j) (.int (if c then 1 else 0)) = some (.val (.int (j * if c then 1 else 0))) := fun j c _ => g_mul2 (by split <;> decide) (by split <;> decide)
  have hm7 : ∀ j : Int, gMul (.int (j % 2147483647)) (.int (j % 2147483647)) = some (.val (.int (j % 2147483647 * (j % 2147483647)))) := fun j => by
    have := Int.emod_nonneg j (show (2147483647 : Int) ≠ 0 by decide)
    have := Int.emod_lt_of_pos j (show (0 : Int) < 2147483647 by decide)
    exact g_mul2 (by omega) (by omega)
  suffices q : ∃ a b, m__law_pool [.scr ns, .int k] = some (.ok (.own false (.lst [.int a, .int b]))) by
    obtain ⟨a, b, e⟩ := q
    exact ⟨⟨a, b⟩, e⟩
  by_cases h : k < ns.length
  · obtain ⟨z, hz⟩ : ∃ z, ns[k]? = some z := ⟨_, List.getElem?_eq_getElem h⟩
    have hi : (k : Int) < (ns.length : Int) := by omega
    simp [m__law_pool, hi, hz, hm2, hm3, hm4, hm5, hm6, hm7]
  · have hi : ¬ (k : Int) < (ns.length : Int) := by omega
    simp [m__law_pool, hi, hm1, hm2, hm3, hm4, hm5, hm6, hm7]
def Tn.first (t : Tn) : St := ⟨List.replicate t.names.length true, List.replicate t.names.length 0, List.replicate t.names.length false, 0, t.money, false, t.tops⟩
theorem v_first {t : Tn} {n : Nat} (h : t.ok n) (h1 : 1 ≤ n) : m__law_first [t.D] = some (.ok (.val t.first.D)) := by
  have hn := h.names
  have h10 := h.ten
  have g : ∀ d : D, gMul (.tup [d]) (.int n) = some (.val (.tup (List.replicate n d))) := fun d => g_mulT1 h1 (by omega)
  simp [m__law_first, hn, g, Tn.first, bbs, iis]
theorem first_good {t : Tn} {n : Nat} {G : Nat → List Nat} (h : t.ok n) (t0 : 0 ≤ t.tops) (gG : ∀ k, k < n → (G k).length ≤ 1000 ∧ ∀ i ∈ G k, i < n) : Good (t.lay G) n t.first := by
  have hn := h.names
  have hr : ∀ i, (List.replicate t.names.length false).getD i false = false := fun i => by
    rw [List.getD_eq_getElem?_getD, List.getElem?_replicate]
    split <;> rfl
  have hz : ∀ i, (List.replicate t.names.length (0 : Int)).getD i 0 = 0 := fun i => by
    rw [List.getD_eq_getElem?_getD, List.getElem?_replicate]
    split <;> rfl
  exact ⟨⟨by simp [Tn.first, hn], by simp [Tn.first, hn], by simp [Tn.first, hn]⟩, fun k _ => hz k, fun k _ _ i _ => hr i, fun z => (nomatch z), t0, fun _ => rfl⟩
end Toy

namespace Toy
open PySem PySem.Spec PyProof.Rows L2 Kx Dm
local macro_rules | `(tactic| tm_at "dj") => `(tactic| first | (simp; done) | (simp; omega) | omega)
/-! ### the names drawn -/
def signs : Str := "abcdefghijklmnopqrstuvwxyz"
theorem signs_cps : signs.cps.toList = (List.range 26).map (· + 97) := by decide +kernel
theorem signs_at {i : Int} (h0 : 0 ≤ i) (h1 : i < 26) : gIx (.str signs) (.int i) = some (.val (.str ⟨#[i.toNat + 97]⟩)) := by
  show (if signs.length ≤ big then (atI signs.cps.toList i).map fun c => Cell.val (.str ⟨#[c]⟩) else none) = _
  rw [if_pos (show signs.length ≤ big by decide +kernel), signs_cps, at_some h0, List.getElem?_map, List.getElem?_range (by omega)]
  rfl
def ends : List (String × String) := [("", ""), ("", "q"), ("ab", ""), ("abcdefg", ""), ("", "abcdefg")]
def nameK (e : String × String) (o st : Int) (k : Nat) : Str := Str.ofString e.1 ++ ⟨#[((o + st * k) % 26).toNat + 97]⟩ ++ Str.ofString e.2
theorem app_cps (a b : Str) : (a ++ b).cps.toList = a.cps.toList ++ b.cps.toList := by
  show (a.cps ++ b.cps).toList = _
  simp
theorem str_len (a : Str) : a.length = a.cps.toList.length := by
  show a.cps.size = _
  simp
theorem ends_ok : ∀ e ∈ ends, (Str.ofString e.1).length + (Str.ofString e.2).length ≤ 7 ∧ (Str.ofString e.1).cps.toList.all letter = true ∧ (Str.ofString e.2).cps.toList.all letter = true := by decide +kernel
theorem nameK_ok {e : String × String} (he : e ∈ ends) {o st : Int} {k : Nat} : okName (nameK e o st k) := by
  obtain ⟨h1, h2, h3⟩ := ends_ok e he
  have c0 := Int.emod_nonneg (o + st * k) (show (26 : Int) ≠ 0 by decide)
  have c1 := Int.emod_lt_of_pos (o + st * k) (show (0 : Int) < 26 by decide)
  have hc : (nameK e o st k).cps.toList = (Str.ofString e.1).cps.toList ++ [((o + st * k) % 26).toNat + 97] ++ (Str.ofString e.2).cps.toList := by
    unfold nameK
    rw [app_cps, app_cps]
  rw [str_len, str_len] at h1
  refine ⟨?_, ?_, ?_⟩
  · rw [str_len, hc]; simp; omega
  · rw [str_len, hc]; simp at h1 ⊢; omega
  · rw [hc]
    simp only [List.all_append, h2, h3, Bool.and_true, Bool.true_and, List.all_cons, List.all_nil]
    unfold letter
    rw [Bool.and_eq_true]
    constructor <;> apply decide_eq_true <;> omega
theorem nameK_inj {e : String × String} {o st : Int} {k l : Nat} (h : nameK e o st k = nameK e o st l) : (o + st * k) % 26 = (o + st * l) % 26 := by
  have c0 := Int.emod_nonneg (o + st * k) (show (26 : Int) ≠ 0 by decide)
  have d0 := Int.emod_nonneg (o + st * l) (show (26 : Int) ≠ 0 by decide)
  have hc : ∀ j : Nat, (nameK e o st j).cps.toList = (Str.ofString e.1).cps.toList ++ [((o + st * j) % 26).toNat + 97] ++ (Str.ofString e.2).cps.toList := fun j => by
    unfold nameK
    rw [app_cps, app_cps]
  have := congrArg (fun s : Str => s.cps.toList) h
  simp only [hc] at this
  have := List.append_cancel_right this
  have := List.append_cancel_left this
  simp at this
  omega
theorem names_nodup {e : String × String} {o : Int} {r : Int} (hr : 0 ≤ r ∧ r < 6) {c : Nat} (hc : c ≤ 4) : ((List.range c).map (nameK e o (1 + 2 * r))).Nodup := by
  refine List.pairwise_map.mpr (List.pairwise_lt_range.imp_of_mem fun {a b} ha hb hab z => ?_)
  have ha := List.mem_range.mp ha
  have hb := List.mem_range.mp hb
  have q := nameK_inj z
  have e1 : (o + (1 + 2 * r) * b - (o + (1 + 2 * r) * a)) % 26 = 0 := Int.emod_eq_emod_iff_emod_sub_eq_zero.mp q.symm
  have e2 : o + (1 + 2 * r) * b - (o + (1 + 2 * r) * a) = (1 + 2 * r) * ((b : Int) - a) := by rw [Int.mul_sub]; omega
  rw [e2] at e1
  obtain ⟨d, hd⟩ : ∃ d : Nat, (b : Int) - a = d ∧ 1 ≤ d ∧ d ≤ 3 := ⟨b - a, by omega, by omega, by omega⟩
  rw [hd.1] at e1
  have : d = 1 ∨ d = 2 ∨ d = 3 := by omega
  rcases this with rfl | rfl | rfl <;> omega
theorem v_lnames {p : Pl} {c : Nat} (hc : c ≤ 4) : ∃ e o r, e ∈ ends ∧ 0 ≤ r ∧ r < 6 ∧ ∃ p' : Pl, m__law_names [p.D, .int c] = some (.ok (.own false (.lst (((List.range c).map (nameK e o (1 + 2 * r))).map .str)), p'.D)) := by
  have d1 := v_draw (p := p) (m := 26) (by decide) (by decide)
  have d2 := v_draw (p := p.next 26) (m := 6) (by decide) (by decide)
  obtain ⟨r0, r1⟩ := draw_in (p.next 26) (m := 6) (by decide)
  have hp : ∃ e, e ∈ ends ∧ m__law_pick [((p.next 26).next 6).D, .lst (ends.map fun e => D.tup [.str (Str.ofString e.1), .str (Str.ofString e.2)])] = some (.ok (.val (D.tup [.str (Str.ofString e.1), .str (Str.ofString e.2)]), (((p.next 26).next 6).next 5).D)) := by
    obtain ⟨d, h1, h2⟩ := pick_some (p := (p.next 26).next 6) (xs := ends.map fun e => D.tup [.str (Str.ofString e.1), .str (Str.ofString e.2)]) (by decide)
    obtain ⟨e, he, rfl⟩ := List.mem_map.mp h2
    exact ⟨e, he, v_pick (by decide) (by decide) h1⟩
  obtain ⟨e, he, hp⟩ := hp
  simp [ends] at hp
  refine ⟨e, p.draw 26, (p.next 26).draw 6, he, r0, r1, ((p.next 26).next 6).next 5, ?_⟩
  have hm : ∀ j : Int, gMul (.int 2) (.int j) = some (.val (.int (2 * j))) := fun j => g_mul1 (by decide) (by decide)
  have e2 : small62 (c : Int) = true := by
    unfold small62
    rw [Bool.and_eq_true]
    constructor <;> apply decide_eq_true <;> omega
  simp [m__law_names, d1, d2, hm, hp, e2]
  have er : rngD 0 c = (List.range c).map fun (i : Nat) => D.int (i : Nat) := by unfold rngD; simp
  rw [er, lc_map (f := fun k => D.str (nameK e (p.draw 26) (1 + 2 * (p.next 26).draw 6) k))]
  · simp [Function.comp_def]
  · intro k hk
    have hk := List.mem_range.mp hk
    have hm2 : ∀ j : Int, gMul (.int j) (.int k) = some (.val (.int (j * k))) := fun j => g_mul2 (by omega) (by omega)
    have sg := signs_at (i := (p.draw 26 + (1 + 2 * (p.next 26).draw 6) * k) % 26) (Int.emod_nonneg _ (by decide)) (Int.emod_lt_of_pos _ (by decide))
    have l1 : (Str.ofString e.1).length + (⟨#[((p.draw 26 + (1 + 2 * (p.next 26).draw 6) * (k : Int)) % 26).toNat + 97]⟩ : Str).length ≤ 1000000 := by
      have := (ends_ok e he).1
      show _ + 1 ≤ _
      omega
    have l2 : (Str.ofString e.1 ++ (⟨#[((p.draw 26 + (1 + 2 * (p.next 26).draw 6) * (k : Int)) % 26).toNat + 97]⟩ : Str)).length + (Str.ofString e.2).length ≤ 1000000 := by
      have := (ends_ok e he).1
      rw [str_len (_ ++ _), app_cps, List.length_append, ← str_len, ← str_len]
      show _ + 1 + _ ≤ _
      omega
    unfold signs at sg
    exact ⟨_, rfl, rfl, by simp [hm2, sg, g_addS l1, g_addS l2, nameK]⟩
  · simp; omega
end Toy

namespace Dm
open PySem PySem.Spec PyProof.Rows L2
/-- a comprehension whose items change the slots -/
theorem lc_inv {α : Type} {vs : List Nat} {tf : D → DEnv → Option DEnv} {te : DEnv → M D} {enc : α → D} (Inv : List α → DEnv → List D → Prop)
    (step : ∀ x xs ρ acc, Inv (x :: xs) ρ acc → acc.length < 1000000 ∧ ∃ ρ1, tf (enc x) (wipeC ρ vs) = some ρ1 ∧ ∃ d ρ2, te ρ1 = some (.ok d ρ2) ∧ Inv xs (wipeC ρ2 vs) (acc ++ [d])) :
    ∀ xs ρ acc, Inv xs ρ acc → ∃ ρ' acc', lcGo vs tf mYes te (xs.map enc) ρ acc = some (acc', ρ') ∧ Inv [] ρ' acc'
  | [], ρ, acc, h => ⟨ρ, acc, rfl, h⟩
  | x :: xs, ρ, acc, h => by
    obtain ⟨hl, ρ1, h1, d, ρ2, h2, h3⟩ := step x xs ρ acc h
    obtain ⟨ρ', acc', g1, g2⟩ := lc_inv Inv step xs _ _ h3
    refine ⟨ρ', acc', ?_, g2⟩
    simp only [List.map_cons, lcGo, h1, e_mYes, h2]
    rw [if_pos (show acc.length < big by rw [e_big]; exact hl)]
    exact g1
end Dm
namespace Toy
open PySem PySem.Spec PyProof.Rows L2 Kx Dm
/-- whole numbers drawn, one for each name -/
theorem draws_lc {xs : List Str} {m : Int} (h : 0 < m) (h2 : m < 1073741824) (hl : xs.length ≤ 1000) {g : Int → D} {te : DEnv → M D} {tl : List Cell} {p : Pl} {b : Bool}
    (ht : ∀ (p : Pl) (x : Str), te (.own b p.D :: (tl ++ [.val (.str x)])) = some (.ok (g (p.draw m)) (.own b (p.next m).D :: (tl ++ [.val (.str x)])))) (vs : List Nat) (tf : D → DEnv → Option DEnv)
    (hw : ∀ (c d : Cell), wipeC (c :: (tl ++ [d])) vs = c :: (tl ++ [.un])) (htf : ∀ (c : Cell) (x : Str), tf (.str x) (c :: (tl ++ [.un])) = some (c :: (tl ++ [.val (.str x)]))) :
    ∃ (p' : Pl) (ns : List Int), lcGo vs tf mYes te (xs.map .str) (.own b p.D :: (tl ++ [.un])) [] = some (ns.map g, .own b p'.D :: (tl ++ [.un])) ∧ ns.length = xs.length ∧ ∀ z ∈ ns, 0 ≤ z ∧ z < m := by
  obtain ⟨ρ', acc', g1, p', ns, hρ, ha, hn, hz⟩ := lc_inv (vs := vs) (tf := tf) (te := te) (enc := D.str)
    (fun rest ρ acc => ∃ (p' : Pl) (ns : List Int), ρ = .own b p'.D :: (tl ++ [.un]) ∧ acc = ns.map g ∧ ns.length + rest.length = xs.length ∧ ∀ z ∈ ns, 0 ≤ z ∧ z < m)
    (fun x rest ρ acc => by
      rintro ⟨p', ns, rfl, rfl, hn, hz⟩
      rw [List.length_cons] at hn
      refine ⟨by rw [List.length_map]; omega, _, by rw [hw]; exact htf _ x, _, _, ht p' x, p'.next m, ns ++ [p'.draw m], hw _ _, by simp, by simp; omega, fun z hz' => ?_⟩
      rcases List.mem_append.mp hz' with h' | h'
      · exact hz z h'
      · obtain rfl := List.mem_singleton.mp h'
        exact draw_in p' h)
    xs _ [] ⟨p, [], rfl, rfl, by simp, fun z hz => (nomatch hz)⟩
  subst hρ ha
  exact ⟨p', ns, g1, by simpa using hn, hz⟩
end Toy

namespace Gr
inductive Rc (A : Nat → Nat → Prop) (n k : Nat) : Nat → Prop
  | self : Rc A n k k
  | step {i j : Nat} : Rc A n k i → A i j → j < n → Rc A n k j
theorem Rc.lt {A : Nat → Nat → Prop} {n k i : Nat} (hk : k < n) (h : Rc A n k i) : i < n := by
  cases h with
  | self => exact hk
  | step _ _ h => exact h
theorem Rc.trans {A : Nat → Nat → Prop} {n k i j : Nat} (h : Rc A n k i) (g : Rc A n i j) : Rc A n k j := by
  induction g with
  | self => exact h
  | step _ a b ih => exact ih.step a b
theorem Rc.symm {A : Nat → Nat → Prop} (hA : ∀ i j, A i j → A j i) {n k i : Nat} (hk : k < n) (h : Rc A n k i) : Rc A n i k := by
  induction h with
  | self => exact .self
  | @step i j h a b ih => exact Rc.trans (.step .self (hA _ _ a) (h.lt hk)) ih
/-- the group of one, in order -/
noncomputable def grp (A : Nat → Nat → Prop) (n k : Nat) : List Nat := by
  classical exact (List.range n).filter fun i => decide (Rc A n k i)
theorem grp_mem {A : Nat → Nat → Prop} {n k i : Nat} : i ∈ grp A n k ↔ i < n ∧ Rc A n k i := by
  classical
  unfold grp
  rw [List.mem_filter, List.mem_range, decide_eq_true_iff]
theorem grp_len {A : Nat → Nat → Prop} {n k : Nat} : (grp A n k).length ≤ n := by
  classical
  unfold grp
  have := List.length_filter_le (fun i => decide (Rc A n k i)) (List.range n)
  simpa using this
theorem grp_same {A : Nat → Nat → Prop} (hA : ∀ i j, A i j → A j i) {n k i : Nat} (hk : k < n) (h : i ∈ grp A n k) : grp A n i = grp A n k := by
  classical
  obtain ⟨_, h⟩ := grp_mem.mp h
  unfold grp
  refine List.filter_congr fun x _ => ?_
  have : Rc A n i x ↔ Rc A n k x := ⟨fun g => h.trans g, fun g => (h.symm hA hk).trans g⟩
  simp [this]
theorem grp_sorted {A : Nat → Nat → Prop} {n k : Nat} : (grp A n k).Pairwise (· < ·) := by
  classical
  unfold grp
  exact List.pairwise_lt_range.filter _
def closed (A : Nat → Nat → Prop) (n : Nat) (F : List Nat) : Prop := ∀ i j, i ∈ F → A i j → j < n → j ∈ F
structure FI (A : Nat → Nat → Prop) (n k : Nat) (F : List Nat) : Prop where
  nd : F.Nodup
  has : k ∈ F
  rc : ∀ x ∈ F, Rc A n k x
theorem FI.init {A : Nat → Nat → Prop} {n k : Nat} : FI A n k [k] := ⟨by simp, by simp, fun x hx => by rw [List.mem_singleton.mp hx]; exact .self⟩
theorem FI.all {A : Nat → Nat → Prop} {n k : Nat} {F : List Nat} (h : FI A n k F) (c : closed A n F) {x : Nat} (r : Rc A n k x) : x ∈ F := by
  induction r with
  | self => exact h.has
  | step _ a b ih => exact c _ _ ih a b
theorem FI.add {A : Nat → Nat → Prop} {n k j : Nat} {F : List Nat} (h : FI A n k F) (hj : j < n) (e : ∃ i ∈ F, A i j) (ne : j ∉ F) : FI A n k (F ++ [j]) := by
  obtain ⟨i, hi, a⟩ := e
  refine ⟨?_, by simp [h.has], fun x hx => ?_⟩
  · rw [List.nodup_append]
    exact ⟨h.nd, by simp, fun x hx y hy e => by rw [List.mem_singleton] at hy; subst hy; exact ne (e ▸ hx)⟩
  · rcases List.mem_append.mp hx with q | q
    · exact h.rc x q
    · rw [List.mem_singleton.mp q]; exact (h.rc i hi).step a hj
theorem sub_len : ∀ {xs ys : List Nat}, xs.Nodup → (∀ x ∈ xs, x ∈ ys) → xs.length ≤ ys.length
  | [], _, _, _ => Nat.zero_le _
  | a :: r, ys, nd, h => by
    have ha := h a (by simp)
    obtain ⟨nd1, nd2⟩ := List.nodup_cons.mp nd
    have := sub_len (xs := r) (ys := ys.erase a) nd2 (fun x hx => (List.mem_erase_of_ne (fun e => nd1 (by rw [← e]; exact hx))).mpr (h x (by simp [hx])))
    rw [List.length_erase_of_mem ha] at this
    have : 0 < ys.length := List.length_pos_of_mem ha
    rw [List.length_cons]
    omega
theorem FI.len {A : Nat → Nat → Prop} {n k : Nat} {F : List Nat} (hk : k < n) (h : FI A n k F) : F.length ≤ n := by
  have := sub_len (ys := List.range n) h.nd (fun x hx => List.mem_range.mpr ((h.rc x hx).lt hk))
  simpa using this
/-- what a closed one comes to, put in order -/
theorem FI.sorted {A : Nat → Nat → Prop} {n k : Nat} {F : List Nat} (hk : k < n) (h : FI A n k F) (c : closed A n F) : F.Perm (grp A n k) := by
  rw [List.perm_ext_iff_of_nodup h.nd (grp_sorted.imp fun h => Nat.ne_of_lt h)]
  intro x
  rw [grp_mem]
  exact ⟨fun hx => ⟨(h.rc x hx).lt hk, h.rc x hx⟩, fun ⟨_, r⟩ => h.all c r⟩
/-- one turn over all: the law's step -/
structure Turn (A : Nat → Nat → Prop) (n k m : Nat) (F0 F : List Nat) : Prop where
  fi : FI A n k F
  sub : ∀ x ∈ F0, x ∈ F
  grow : F = F0 ∨ F0.length < F.length
  done : ∀ j, j < m → (∃ i ∈ F0, A i j) → j ∈ F
theorem Turn.init {A : Nat → Nat → Prop} {n k : Nat} {F : List Nat} (h : FI A n k F) : Turn A n k 0 F F := ⟨h, fun _ h => h, .inl rfl, fun _ h => absurd h (Nat.not_lt_zero _)⟩
theorem Turn.stay {A : Nat → Nat → Prop} {n k m : Nat} {F0 F : List Nat} (h : Turn A n k m F0 F) (e : m ∈ F ∨ ¬ ∃ i ∈ F, A i m) : Turn A n k (m + 1) F0 F :=
  ⟨h.fi, h.sub, h.grow, fun j hj ⟨i, hi, a⟩ => by
    by_cases q : j = m
    · subst q
      rcases e with e | e
      · exact e
      · exact absurd ⟨i, h.sub i hi, a⟩ e
    · exact h.done j (by omega) ⟨i, hi, a⟩⟩
theorem Turn.add {A : Nat → Nat → Prop} {n k m : Nat} {F0 F : List Nat} (h : Turn A n k m F0 F) (hm : m < n) (ne : m ∉ F) (e : ∃ i ∈ F, A i m) : Turn A n k (m + 1) F0 (F ++ [m]) :=
  ⟨h.fi.add hm e ne, fun x hx => by simp [h.sub x hx], by
    right
    rw [List.length_append]
    rcases h.grow with q | q
    · subst q; simp
    · simp; omega, fun j hj q => by
    by_cases z : j = m
    · subst z; simp
    · simp [h.done j (by omega) q]⟩
/-- what the turns come to: after m turns it is closed, or has more than m -/
def After (A : Nat → Nat → Prop) (n k m : Nat) (F : List Nat) : Prop := FI A n k F ∧ (closed A n F ∨ m < F.length)
theorem After.init {A : Nat → Nat → Prop} {n k : Nat} : After A n k 0 [k] := ⟨.init, .inr (by simp)⟩
theorem After.turn {A : Nat → Nat → Prop} {n k m : Nat} {F0 F : List Nat} (h : After A n k m F0) (t : Turn A n k n F0 F) : After A n k (m + 1) F := by
  refine ⟨t.fi, ?_⟩
  rcases t.grow with q | q
  · subst q
    exact .inl fun i j hi a hj => t.done j hj ⟨i, hi, a⟩
  · rcases h.2 with c | c
    · refine .inl ?_
      have : ∀ x ∈ F, x ∈ F0 := fun x hx => h.1.all c (t.fi.rc x hx)
      have := sub_len t.fi.nd this
      omega
    · exact .inr (by omega)
theorem After.closed {A : Nat → Nat → Prop} {n k : Nat} {F : List Nat} (hk : k < n) (h : After A n k n F) : closed A n F := by
  rcases h.2 with c | c
  · exact c
  · have := h.1.len hk
    omega
end Gr

namespace Dm
open PySem PySem.Spec PyProof.Rows L2
def kIX2 (c : Nat) (m : Fn) (x y : D) (ρ : DEnv) : M Cell := match x with
  | .ins c' ns ds => if c' = c then upC (m [.ins c' ns ds, y]) ρ else none
  | _ => none
def kIX (c : Nat) (m : Fn) (g : DEnv → M D) (x : D) (ρ : DEnv) : M Cell := bnd (g ρ) (kIX2 c m x)
@[simp] theorem e_mIxOwn {c : Nat} {m : Fn} {f g : DEnv → M D} {ρ : DEnv} : mIxOwn c m f g ρ = bnd (f ρ) (kIX c m g) := .trans rfl rfl
@[simp] theorem e_kIX {c : Nat} {m : Fn} {g : DEnv → M D} {x : D} {ρ : DEnv} : kIX c m g x ρ = bnd (g ρ) (kIX2 c m x) := .trans rfl rfl
@[simp] theorem e_kIX2 {c : Nat} {m : Fn} {ns : List Str} {ds : List D} {y : D} {ρ : DEnv} : kIX2 c m (.ins c ns ds) y ρ = upC (m [.ins c ns ds, y]) ρ := if_pos rfl
end Dm
namespace Toy
open PySem PySem.Spec PyProof.Rows L2 Kx Dm
local macro_rules | `(tactic| tm_at "dj") => `(tactic| first | (simp; done) | (simp; omega) | omega)
section
variable (t : Tn)
@[simp] theorem tw_kIX2 {m : Fn} {y : Dm.D} {ρ : DEnv} : kIX2 1 m t.town y ρ = upC (m [t.town, y]) ρ := e_kIX2 (c := 1)
@[simp] theorem tw_kIO2 {m : Fn} {neg : Bool} {x : Dm.D} {ρ : DEnv} : kIO2 1 m neg x t.town ρ = kIO3 neg ρ (m [t.town, x]) := e_kIO2 (n := 1)
end
theorem in_dct {names : List Str} {vs : List Dm.D} {x : Str} (h : vs.length = names.length) : gIn (.str x) (.dct 0 (names.map .str) vs) = some (.val (.bl (decide (x ∈ names)))) := by
  have := dlk_in (names := names) (vs := vs) (x := x) h
  simp only [gIn, inD, dlook_s, Option.map_some, this]
theorem notIn_dct {names : List Str} {vs : List Dm.D} {x : Str} (h : vs.length = names.length) : gNotIn (.str x) (.dct 0 (names.map .str) vs) = some (.val (.bl (!decide (x ∈ names)))) := by
  have := dlk_in (names := names) (vs := vs) (x := x) h
  simp only [gNotIn, inD, dlook_s, Option.map_some, this]
theorem tills_len {t : Tn} : t.tills.length = t.names.length := by
  unfold Tn.tills; simp
theorem v_contains {t : Tn} {x : Str} (hx : okName x) : m_Town_contains [t.town, .str x] = some (.ok (.val (.bl (decide (x ∈ t.names))))) := by
  have h := in_dct (names := t.names) (vs := t.tills.map Tl.D) (x := x) (by simp [tills_len])
  simp [m_Town_contains, v_is_name hx, h]
theorem dlk_at {names : List Str} {vs : List Dm.D} {k : Nat} {d : Dm.D} (nd : names.Nodup) (hk : k < names.length) (hv : vs[k]? = some d) : dlk key1 (names.map .str) vs (.inr (nm names k)) = some d := by
  induction names generalizing vs k with
  | nil => simp at hk
  | cons a names ih =>
    cases vs with
    | nil => simp at hv
    | cons v vs =>
      rw [List.map_cons, dlk_cons]
      obtain ⟨n1, n2⟩ := List.nodup_cons.mp nd
      cases k with
      | zero =>
        have : nm (a :: names) 0 = a := rfl
        rw [this, if_pos (by simp)]
        simpa using hv
      | succ k =>
        have e : nm (a :: names) (k + 1) = nm names k := rfl
        have hk' : k < names.length := by simpa using hk
        have hm : nm names k ∈ names := List.mem_of_getElem? (nm_at hk')
        rw [e, if_neg (by intro z; simp at z; exact n1 (z ▸ hm))]
        exact ih n2 hk' (by simpa using hv)
theorem v_getitem {t : Tn} {n k : Nat} (h : t.ok n) (hk : k < n) (hx : okName (nm t.names k)) : m_Town_getitem [t.town, .str (nm t.names k)] = some (.ok (.val (Tl.D ⟨nm t.names k, t.limits.getD k 0, t.heeds.getD k false⟩))) := by
  have hn := h.names
  have hm : nm t.names k ∈ t.names := List.mem_of_getElem? (nm_at (by omega))
  have h1 := notIn_dct (names := t.names) (vs := t.tills.map Tl.D) (x := nm t.names k) (by simp [tills_len])
  have hv : (t.tills.map Tl.D)[k]? = some (Tl.D ⟨nm t.names k, t.limits.getD k 0, t.heeds.getD k false⟩) := by
    unfold Tn.tills
    rw [List.map_map, List.getElem?_map, List.getElem?_range (by omega)]
    rfl
  have h2 := dlk_at (vs := t.tills.map Tl.D) h.nd (k := k) (by omega) hv
  have h3 : gIx (.dct 0 (t.names.map .str) (t.tills.map Tl.D)) (.str (nm t.names k)) = some (.val (Tl.D ⟨nm t.names k, t.limits.getD k 0, t.heeds.getD k false⟩)) := g_ixD (by rw [dlook_s, h2])
  simp [m_Town_getitem, v_is_name hx, h1, hm, h3]
/-! ### the law's groups -/
def Tn.adj (t : Tn) (i j : Nat) : Prop := (nm t.names i, nm t.names j) ∈ t.links ∨ (nm t.names j, nm t.names i) ∈ t.links
instance {t : Tn} {i j : Nat} : Decidable (t.adj i j) := inferInstanceAs (Decidable (_ ∨ _))
theorem adj_symm {t : Tn} : ∀ i j, t.adj i j → t.adj j i := fun i j h => h.symm
theorem sort_two {a b : Str} : sortS [a, b] = if Dm.leS a b then [a, b] else [b, a] := by
  show insS a (insS b []) = _
  unfold insS insS
  rfl
theorem v_near {t : Tn} {n i j : Nat} (h : t.fits n) (hi : i < n) (hj : j < n) : ∃ p : Str × Str, gSorted [.lst [.str (nm t.names i), .str (nm t.names j)]] = some (.own false (.lst [.str p.1, .str p.2])) ∧ gIn (pairD p) (.lst (t.links.map pairD)) = some (.val (.bl (decide (t.adj i j)))) := by
  have hn := h.ok.names
  have mi : nm t.names i ∈ t.names := List.mem_of_getElem? (nm_at (by omega))
  have mj : nm t.names j ∈ t.names := List.mem_of_getElem? (nm_at (by omega))
  have si := h.ok.str _ mi
  have sj := h.ok.str _ mj
  have hs : gSorted [.lst [.str (nm t.names i), .str (nm t.names j)]] = some (.own false (.lst ((sortS [nm t.names i, nm t.names j]).map .str))) := by
    rfl
  rw [sort_two] at hs
  have lt : ∀ p ∈ t.links, p.1.cps.toList < p.2.cps.toList := fun p hp => (h.lks p hp).2.2.2.2
  by_cases q : Dm.leS (nm t.names i) (nm t.names j)
  · rw [if_pos q] at hs
    refine ⟨(nm t.names i, nm t.names j), hs, ?_⟩
    rw [in_pairs h.los ⟨si, sj⟩]
    congr 3
    apply Bool.eq_iff_iff.mpr
    rw [decide_eq_true_iff, decide_eq_true_iff]
    refine ⟨.inl, fun z => z.elim id fun z => ?_⟩
    exact absurd (lt _ z) q
  · rw [if_neg q] at hs
    refine ⟨(nm t.names j, nm t.names i), hs, ?_⟩
    rw [in_pairs h.los ⟨sj, si⟩]
    congr 3
    apply Bool.eq_iff_iff.mpr
    rw [decide_eq_true_iff, decide_eq_true_iff]
    refine ⟨.inr, fun z => z.elim (fun z => ?_) id⟩
    exact absurd (lt _ z) (fun y => q (List.le_of_lt y))
abbrev lgB : MS := sSeq
                (sSet 6
                  (mLc (itSeq (mVar 2)) [7] (tgN 7)
                    (mTest
                      (frz
                        (mOp gIn
                          (frz
                            (mCB gTuple
                              (mCons
                                (frz
                                  (mCB gSorted
                                    (mCons
                                      (frz
                                        (mLst
                                          (mCons (frz (mCB gStr (mCons (frz (mOp gIx (mVar 3) (mVar 5))) mNil)))
                                            (mCons (frz (mCB gStr (mCons (frz (mOp gIx (mVar 3) (mVar 7))) mNil)))
                                              mNil))))
                                      mNil)))
                                mNil)))
                          (frz (mOp gIx (mVar 0) (mC (D.str (Str.ofString "links"))))))))
                    (mVar 7)))
                (sSet 2
                  (mOp gAdd (mVar 2)
                    (frz
                      (mOp gMul (frz (mLst (mCons (mVar 5) mNil)))
                        (frz
                          (mCB gInt
                            (mCons
                              (mAndV (frz (mOp gNe (mVar 6) (frz (mLst mNil)))) (frz (mOp gNotIn (mVar 5) (mVar 2))))
                              mNil)))))))
def nats (F : List Nat) : List Dm.D := F.map fun (i : Nat) => D.int (i : Nat)
def holds (c : Cell) (d : Dm.D) : Prop := c = .val d ∨ c = .own false d
theorem notIn_nats {F : List Nat} {i : Nat} : gNotIn (.int i) (.lst (F.map fun (i : Nat) => D.int (i : Nat))) = some (.val (.bl (!decide (i ∈ F)))) := by
  have h1 : (F.map fun (i : Nat) => D.int (i : Nat)).all isF = true := by simp [isF]
  have h2 : ((F.map fun (i : Nat) => D.int (i : Nat)).any fun d => eqF d (.int i)) = decide (i ∈ F) := by
    induction F with
    | nil => rfl
    | cons x g ih =>
      rw [List.map_cons, List.any_cons, ih (by simp [isF])]
      simp only [eqF, List.mem_cons]
      by_cases e : i = x
      · subst e; simp
      · have : (((x : Nat) : Int) == ((i : Nat) : Int)) = false := by simp; omega
        rw [this]; simp [e]
  show (memD _ _ _).map _ = _
  unfold memD
  rw [if_pos ⟨rfl, h1⟩, h2]
  rfl
theorem lg_inner {t : Tn} {n k : Nat} (h : t.fits n) (hk : k < n) {F0 : List Nat} {a b c d : Cell} (hF : Gr.FI t.adj n k F0) (ha : pl a) (hb : pl b) (hd : pl d) (hc : holds c (.lst (F0.map fun (i : Nat) => D.int (i : Nat)))) :
    ∃ F c' b' d', forGo (tgN 5) lgB ((List.range n).map fun (i : Nat) => D.int (i : Nat)) [.val t.D, .val (.int k), c, .val (.lst (t.names.map .str)), a, b, d, .un] = some (.nx [.val t.D, .val (.int k), c', .val (.lst (t.names.map .str)), a, b', d', .un]) ∧ Gr.Turn t.adj n k n F0 F ∧ holds c' (.lst (F.map fun (i : Nat) => D.int (i : Nat))) ∧ pl b' ∧ pl d' := by
  have hn := h.ok.names
  have h4 := h.n4
  obtain ⟨ρ', g1, m, F, c1, b1, d1, g2, g3, rfl, g4, g5, g6⟩ := for_inv (tf := tgN 5) (body := lgB) (enc := fun (i : Nat) => D.int (i : Nat))
    (fun rest ρ => ∃ (m : Nat) (F : List Nat) (c b d : Cell), rest = (List.range n).drop m ∧ Gr.Turn t.adj n k m F0 F ∧ ρ = [.val t.D, .val (.int k), c, .val (.lst (t.names.map .str)), a, b, d, .un] ∧ holds c (.lst (F.map fun (i : Nat) => D.int (i : Nat))) ∧ pl b ∧ pl d)
    (fun x rest ρ => by
      rintro ⟨m, F, c, b, d, hr, hT, rfl, hc, hb, hd⟩
      have hm : m < n := by
        have := congrArg List.length hr
        simp at this; omega
      have hx : x = m ∧ rest = (List.range n).drop (m + 1) := by
        rw [List.drop_eq_getElem_cons (by simpa using hm)] at hr
        simp at hr
        exact ⟨hr.1, hr.2⟩
      obtain ⟨rfl, rfl⟩ := hx
      refine ⟨_, by simp [e_sCp hb]; rfl, ?_⟩
      have hl := hT.fi.len hk
      have fin : ∀ x ∈ F, x < n := fun x hx => (hT.fi.rc x hx).lt hk
      have lcs : ∀ c : Cell, lcGo [7] (tgN 7) (mTest
                      (frz
                        (mOp gIn
                          (frz
                            (mCB gTuple
                              (mCons
                                (frz
                                  (mCB gSorted
                                    (mCons
                                      (frz
                                        (mLst
                                          (mCons (frz (mCB gStr (mCons (frz (mOp gIx (mVar 3) (mVar 5))) mNil)))
                                            (mCons (frz (mCB gStr (mCons (frz (mOp gIx (mVar 3) (mVar 7))) mNil)))
                                              mNil))))
                                      mNil)))
                                mNil)))
                          (frz (mOp gIx (mVar 0) (mC (D.str (Str.ofString "links")))))))) (mVar 7) (F.map fun (i : Nat) => D.int (i : Nat)) [.val t.D, .val (.int k), c, .val (.lst (t.names.map .str)), a, .val (.int x), d, .un] [] = some (([] ++ (F.filter fun i => decide (t.adj x i)).map fun (i : Nat) => D.int (i : Nat)), [.val t.D, .val (.int k), c, .val (.lst (t.names.map .str)), a, .val (.int x), d, .un]) := fun c => by
        refine lc_pure (fun i => decide (t.adj x i)) _ F [] (fun i hi => ?_) (by simp; omega)
        obtain ⟨p, p1, p2⟩ := v_near h hm (fin i hi)
        have a1 := nm_at (names := t.names) (k := x) (by omega)
        have a2 := nm_at (names := t.names) (k := i) (by have := fin i hi; omega)
        refine ⟨_, rfl, rfl, ?_, fun _ => rfl⟩
        simp [a1, a2, p1]
        simp [pairD] at p2
        simp [p2]
      have np := @notIn_nats F x
      have ns := @ne_nns F (fun i => decide (t.adj x i))
      have l1000 : F.length ≤ 1000 := by omega
      have hx2 : (F.any fun i => decide (t.adj x i)) = true → ∃ i ∈ F, t.adj i x := fun q => by
        obtain ⟨i, hi, e⟩ := List.any_eq_true.mp q
        exact ⟨i, hi, adj_symm _ _ (of_decide_eq_true e)⟩
      have hx3 : (F.any fun i => decide (t.adj x i)) = false → ¬ ∃ i ∈ F, t.adj i x := fun q ⟨i, hi, e⟩ => by
        have := List.any_eq_false.mp q i hi
        exact this (decide_eq_true (adj_symm _ _ e))
      have e2 : forall (F : List Nat), F.map (fun (i : Nat) => D.int (i : Nat)) ++ [D.int (x : Nat)] = (F ++ [x]).map fun (i : Nat) => D.int (i : Nat) := fun F => by simp
      rcases hc with rfl | rfl <;> cases q1 : (F.any fun i => decide (t.adj x i)) <;> rw [q1] at ns <;> by_cases q2 : x ∈ F
      all_goals simp only [q2, decide_true, decide_false, Bool.not_true, Bool.not_false] at np
      all_goals first
        | (refine ⟨_, .inl ?_, x + 1, F, .own false (.lst (F.map fun (i : Nat) => D.int (i : Nat))), .val (.int x), .val (.lst ((F.filter fun i => decide (t.adj x i)).map fun (i : Nat) => D.int (i : Nat))), rfl, hT.stay ?_, rfl, .inr rfl, trivial, trivial⟩
           · simp (disch := tm_at "dj") [lcs, e_sCp hd, ns, np]
           · first | exact .inl q2 | exact .inr (hx3 q1))
        | (refine ⟨_, .inl ?_, x + 1, F ++ [x], .own false (.lst (F.map (fun (i : Nat) => D.int (i : Nat)) ++ [D.int x])), .val (.int x), .val (.lst ((F.filter fun i => decide (t.adj x i)).map fun (i : Nat) => D.int (i : Nat))), rfl, hT.add hm q2 (hx2 q1), rfl, .inr (by rw [e2]), trivial, trivial⟩
           simp (disch := tm_at "dj") [lcs, e_sCp hd, ns, np]))
    (List.range n) [.val t.D, .val (.int k), c, .val (.lst (t.names.map .str)), a, b, d, .un] ⟨0, F0, c, b, d, by simp, .init hF, rfl, hc, hb, hd⟩
  have hm : n ≤ m := by
    have := congrArg List.length g2
    simp at this; omega
  have hm2 : Gr.Turn t.adj n k n F0 F := ⟨g3.fi, g3.sub, g3.grow, fun j hj e => g3.done j (by omega) e⟩
  exact ⟨F, c1, b1, d1, g1, hm2, g4, g5, g6⟩
theorem sortI_nats {F G : List Nat} (h : F.Perm G) (hs : G.Pairwise (· < ·)) : sortI (F.map fun (i : Nat) => (i : Int)) = G.map fun (i : Nat) => (i : Int) := by
  refine List.Perm.eq_of_pairwise (fun a b _ _ h1 h2 => Int.le_antisymm h1 h2) (sortI_pw _) ?_ ((sortI_perm _).trans (h.map _))
  rw [List.pairwise_map]
  exact hs.imp fun h => by omega
theorem sorted_nats {F G : List Nat} (h : F.Perm G) (hs : G.Pairwise (· < ·)) (hl : F.length < 64) : gSorted [.lst (F.map fun (i : Nat) => D.int (i : Nat))] = some (.own false (.lst (G.map fun (i : Nat) => D.int (i : Nat)))) := by
  have e : F.map (fun (i : Nat) => D.int (i : Nat)) = (F.map fun (i : Nat) => (i : Int)).map D.int := by rw [List.map_map]; rfl
  have e2 : G.map (fun (i : Nat) => D.int (i : Nat)) = (G.map fun (i : Nat) => (i : Int)).map D.int := by rw [List.map_map]; rfl
  unfold gSorted
  simp only
  rw [if_pos (by simpa using hl), e, intsD_map]
  show some (Cell.own false (D.lst (List.map D.int (sortI _)))) = _
  rw [sortI_nats h hs, e2]
theorem v_lgroup {t : Tn} {n k : Nat} (h : t.fits n) (hk : k < n) : m__law_group [t.D, .int k] = some (.ok (.own false (.lst ((Gr.grp t.adj n k).map fun (i : Nat) => D.int (i : Nat))))) := by
  have hn := h.ok.names
  have h4 := h.n4
  have e1 : (n : Int).toNat = n := by omega
  have e2 : small62 (n : Int) = true := by
    unfold small62
    rw [Bool.and_eq_true]
    constructor <;> apply decide_eq_true <;> omega
  simp [m__law_group, hn, e2, rngD_eq]
  obtain ⟨ρ', g1, m, F, c, a, b, d, g2, g3, rfl, g4, g5, g6, g7⟩ := for_inv (tf := tgN 4) (body := sFor (itRng1 (mCons (frz (mCB gLen (mCons (mVar 3) mNil))) mNil)) (tgN 5) lgB) (enc := fun (i : Nat) => D.int (i : Nat))
    (fun rest ρ => ∃ (m : Nat) (F : List Nat) (c a b d : Cell), m + rest.length = n ∧ Gr.After t.adj n k m F ∧ ρ = [.val t.D, .val (.int k), c, .val (.lst (t.names.map .str)), a, b, d, .un] ∧ holds c (.lst (F.map fun (i : Nat) => D.int (i : Nat))) ∧ pl a ∧ pl b ∧ pl d)
    (fun x rest ρ => by
      rintro ⟨m, F, c, a, b, d, hr, hT, rfl, hc, ha, hb, hd⟩
      obtain ⟨F', c', b', d', f1, f2, f3, f4, f5⟩ := lg_inner h hk (a := .val (.int x)) hT.1 trivial hb hd hc
      refine ⟨[.val t.D, .val (.int k), c, .val (.lst (t.names.map .str)), .val (.int x), b, d, .un], by simp [e_sCp ha], _, .inl (by simp [hn, e2, rngD_eq]; exact f1), m + 1, F', c', .val (.int x), b', d', by simp at hr; omega, hT.turn f2, rfl, f3, trivial, f4, f5⟩)
    (List.range n) [.val t.D, .val (.int k), .val (.lst [.int k]), .val (.lst (t.names.map .str)), .un, .un, .un, .un] ⟨0, [k], _, .un, .un, .un, by simp, .init, rfl, .inl (by simp), trivial, trivial, trivial⟩
  rw [g1]
  have hm : m = n := by simpa using g2
  subst hm
  have hcl := g3.closed hk
  have hp := g3.1.sorted hk hcl
  have hs := sorted_nats hp Gr.grp_sorted (by have := g3.1.len hk; omega)
  have hl := g3.1.len hk
  have lcs : ∀ c : Cell, lcGo [5] (tgN 5) mYes (frz (mCB gInt (mCons (mVar 5) mNil))) (F.map fun (i : Nat) => D.int (i : Nat)) [.val t.D, .val (.int k), c, .val (.lst (t.names.map .str)), a, .un, d, .un] [] = some (F.map fun (i : Nat) => D.int (i : Nat), [.val t.D, .val (.int k), c, .val (.lst (t.names.map .str)), a, .un, d, .un]) := fun c => by
    refine lc_map (enc := fun (i : Nat) => D.int (i : Nat)) (fun (i : Nat) => D.int (i : Nat)) (fun x hx => ⟨_, rfl, rfl, by simp⟩) (by omega)
  rcases g4 with rfl | rfl <;> simp [lcs, hs]
end Toy

namespace Toy
open PySem PySem.Spec PyProof.Rows L2 Kx Dm
local macro_rules | `(tactic| tm_at "dj") => `(tactic| first | (simp; done) | (simp; omega) | omega)
def addS (ks : List Str) (a : Str) : List Str := if a ∈ ks then ks else ks ++ [a]
theorem dputA_true {ks : List Str} {a : Str} : dputA key1 (.inr a) (.bl true) (ks.map .str) (ks.map fun _ => .bl true) = ks.map fun _ => .bl true := by
  induction ks with
  | nil => simp
  | cons x ks ih =>
    rw [List.map_cons, List.map_cons, dputA_cons, ih]
    split <;> rfl
theorem dputG_true {ks : List Str} {a : Str} : dputG key1 (.inr a) (ks.map .str) (ks.map fun _ => .bl true) (.str a) (.bl true) = ((addS ks a).map .str, (addS ks a).map fun _ => .bl true) := by
  unfold addS
  by_cases h : a ∈ ks
  · rw [if_pos h, dputG_old (by rw [dhas_names]; simpa using h), dputA_true]
  · rw [if_neg h, dputG_new (by rw [dhas_names]; simpa using h)]
    simp
theorem nm_inj {names : List Str} {i j : Nat} (nd : names.Nodup) (hi : i < names.length) (hj : j < names.length) (h : nm names i = nm names j) : i = j := by
  have h1 := nm_at hi
  have h2 := nm_at hj
  rw [h] at h1
  exact (List.getElem?_inj hi nd).mp (h1.trans h2.symm)
theorem nm_mem {names : List Str} {x : Str} (h : x ∈ names) : ∃ i, i < names.length ∧ nm names i = x := by
  obtain ⟨i, hi⟩ := List.getElem?_of_mem h
  have hl : i < names.length := (List.getElem?_eq_some_iff.mp hi).1
  refine ⟨i, hl, ?_⟩
  have := nm_at hl
  rw [hi] at this
  exact (Option.some.inj this).symm
section
variable {t : Tn} {n k : Nat} {F : List Nat}
theorem mem_keys (h : t.fits n) (hF : ∀ x ∈ F, x < n) {i : Nat} (hi : i < n) : nm t.names i ∈ F.map (nm t.names) ↔ i ∈ F := by
  have hn := h.ok.names
  refine ⟨fun z => ?_, fun z => List.mem_map.mpr ⟨i, z, rfl⟩⟩
  obtain ⟨j, hj, e⟩ := List.mem_map.mp z
  have := hF j hj
  rw [nm_inj h.ok.nd (by omega) (by omega) e] at hj
  exact hj
theorem link_ix (h : t.fits n) {p : Str × Str} (hp : p ∈ t.links) : ∃ i j, i < n ∧ j < n ∧ p = (nm t.names i, nm t.names j) ∧ t.adj i j := by
  have hn := h.ok.names
  obtain ⟨_, _, h1, h2, _⟩ := h.lks p hp
  obtain ⟨i, hi, e1⟩ := nm_mem h1
  obtain ⟨j, hj, e2⟩ := nm_mem h2
  refine ⟨i, j, by omega, by omega, by rw [e1, e2], .inl ?_⟩
  rw [e1, e2]; exact hp
/-- the links' ends are both in or both out: nothing more is joined -/
theorem closed_of (h : t.fits n) (hF : ∀ x ∈ F, x < n) (hc : ∀ p ∈ t.links, p.1 ∈ F.map (nm t.names) ↔ p.2 ∈ F.map (nm t.names)) : Gr.closed t.adj n F := fun i j hi a hj => by
  have hi' := hF i hi
  rcases a with a | a
  · have := hc _ a
    rw [mem_keys h hF hi', mem_keys h hF hj] at this
    exact this.mp hi
  · have := hc _ a
    rw [mem_keys h hF hi', mem_keys h hF hj] at this
    exact this.mpr hi
end
theorem addS_nm {t : Tn} {n i : Nat} {F : List Nat} (h : t.fits n) (hF : ∀ x ∈ F, x < n) (hi : i < n) : addS (F.map (nm t.names)) (nm t.names i) = (if i ∈ F then F else F ++ [i]).map (nm t.names) := by
  unfold addS
  by_cases q : i ∈ F
  · rw [if_pos ((mem_keys h hF hi).mpr q), if_pos q]
  · rw [if_neg (fun z => q ((mem_keys h hF hi).mp z)), if_neg q]
    simp
theorem pAt_true {ks : List Str} {a : Str} {i : Nat} {ρ : DEnv} (h : ks.length < 1000000) : pAt i (.str a) (.bl true) ρ (some (.own false (.dct 0 (ks.map .str) (ks.map fun _ => .bl true)))) = some (ρ.set i (.own false (.dct 0 ((addS ks a).map .str) ((addS ks a).map fun _ => .bl true)))) := by
  exact e_pAtD (p := ((addS ks a).map .str, (addS ks a).map fun _ => .bl true)) (by simpa using h) (by rw [dput_s, dputG_true])
theorem holds.pl {c : Cell} {d : Dm.D} (h : holds c d) : pl c := by rcases h with rfl | rfl <;> trivial
abbrev jnB : MS := sIf (mPeek (fun _ => true) (mTest (frz (mOp gNe (frz (mOp gIn (mVar 5) (mVar 3))) (frz (mOp gIn (mVar 6) (mVar 3))))))) (sSeq (sPut 3 (mVar 5) (mC (.bl true)))
    (sSeq (sPut 3 (mVar 6) (mC (.bl true)))
    (sSet 4 (toC (mC (.bl true)))))) sNx
def dK (ks : List Str) : Dm.D := .dct 0 (ks.map .str) (ks.map fun _ => .bl true)
theorem jn_links {t : Tn} {n k : Nat} (h : t.fits n) (hk : k < n) {ls : List (Str × Str)} (hls : ∀ p ∈ ls, p ∈ t.links) {F0 : List Nat} {a b l nms x : Cell} (hF : Gr.FI t.adj n k F0) (ha : pl a) (hb : pl b) :
    ∃ F g a' b', forGo (unD 2 (tgCons (tgN 5) (tgCons (tgN 6) tgNil))) jnB (ls.map pairD) [nms, l, x, .own false (dK (F0.map (nm t.names))), .val (.bl false), a, b] = some (.nx [nms, l, x, .own false (dK (F.map (nm t.names))), g, a', b']) ∧
      Gr.FI t.adj n k F ∧ pl a' ∧ pl b' ∧ ((holds g (.bl true) ∧ F0.length < F.length) ∨ (holds g (.bl false) ∧ F = F0 ∧ ∀ p ∈ ls, p.1 ∈ F0.map (nm t.names) ↔ p.2 ∈ F0.map (nm t.names))) := by
  obtain ⟨ρ', g1, F, g, a1, b1, rfl, g3, g4, g5, g6⟩ := for_inv (tf := unD 2 (tgCons (tgN 5) (tgCons (tgN 6) tgNil))) (body := jnB) (enc := pairD)
    (fun rest ρ => ∃ (F : List Nat) (g a b : Cell), ρ = [nms, l, x, .own false (dK (F.map (nm t.names))), g, a, b] ∧ Gr.FI t.adj n k F ∧ pl a ∧ pl b ∧ (∀ p ∈ rest, p ∈ ls) ∧
      ((holds g (.bl true) ∧ F0.length < F.length) ∨ (holds g (.bl false) ∧ F = F0 ∧ ∀ p ∈ ls, p ∈ rest ∨ (p.1 ∈ F0.map (nm t.names) ↔ p.2 ∈ F0.map (nm t.names)))))
    (fun p rest ρ => by
      rintro ⟨F, g, a, b, rfl, hF, ha, hb, hsub, hg⟩
      have hp := hls p (hsub p List.mem_cons_self)
      obtain ⟨i, j, hi, hj, rfl, adj⟩ := link_ix h hp
      have hlt : ∀ x ∈ F, x < n := fun x hx => (hF.rc x hx).lt hk
      have m1 := mem_keys h hlt hi
      have m2 := mem_keys h hlt hj
      have i1 := in_dct (names := F.map (nm t.names)) (vs := (F.map (nm t.names)).map fun _ => .bl true) (x := nm t.names i) (by simp)
      have i2 := in_dct (names := F.map (nm t.names)) (vs := (F.map (nm t.names)).map fun _ => .bl true) (x := nm t.names j) (by simp)
      have pg : pl g := by rcases hg with z | z <;> exact z.1.pl
      have hl := hF.len hk
      have h4 := h.n4
      refine ⟨[nms, l, x, .own false (dK (F.map (nm t.names))), g, .val (.str (nm t.names i)), .val (.str (nm t.names j))], by simp [pairD, e_sCp ha, e_sCp hb], ?_⟩
      have a1 := addS_nm h hlt hi
      have stay : (i ∈ F ↔ j ∈ F) → ((holds g (.bl true) ∧ F0.length < F.length) ∨ (holds g (.bl false) ∧ F = F0 ∧ ∀ p ∈ ls, p ∈ rest ∨ (p.1 ∈ F0.map (nm t.names) ↔ p.2 ∈ F0.map (nm t.names)))) := fun q => by
        rcases hg with z | ⟨z1, z2, z3⟩
        · exact .inl z
        · refine .inr ⟨z1, z2, fun p hp => ?_⟩
          rcases z3 p hp with y | y
          · rcases List.mem_cons.mp y with y | y
            · subst y
              subst z2
              exact .inr (by rw [m1, m2]; exact q)
            · exact .inl y
          · exact .inr y
      have more : ∀ {F' : List Nat}, F.length < F'.length → F0.length < F'.length := fun q => by
        rcases hg with z | ⟨_, z2, _⟩
        · exact Nat.lt_trans z.2 q
        · subst z2; exact q
      have hs2 : ∀ p ∈ rest, p ∈ ls := fun p hp => hsub p (List.mem_cons_of_mem _ hp)
      simp only [m1] at i1
      simp only [m2] at i2
      by_cases q1 : i ∈ F <;> by_cases q2 : j ∈ F <;> simp only [q1, q2, decide_true, decide_false, if_true, if_false] at i1 i2 a1
      · refine ⟨_, .inl ?_, F, g, .val (.str (nm t.names i)), .val (.str (nm t.names j)), rfl, hF, trivial, trivial, hs2, stay (by simp [q1, q2])⟩
        simp [dK, i1, i2, -List.map_map]
      · have a2 : addS (F.map (nm t.names)) (nm t.names j) = (F ++ [j]).map (nm t.names) := by rw [addS_nm h hlt hj, if_neg q2]
        refine ⟨_, .inl ?_, F ++ [j], .val (.bl true), .val (.str (nm t.names i)), .val (.str (nm t.names j)), rfl, hF.add hj ⟨i, q1, adj⟩ q2, trivial, trivial, hs2, .inl ⟨.inl rfl, more (by simp)⟩⟩
        simp (disch := tm_at "dj") [dK, i1, i2, pAt_true, a1, a2, e_sCp pg, -List.map_map, -List.map_append]
      · have a2 : addS ((F ++ [i]).map (nm t.names)) (nm t.names j) = (F ++ [i]).map (nm t.names) := by
          rw [addS_nm h (fun x hx => by rcases List.mem_append.mp hx with y | y; exact hlt x y; rw [List.mem_singleton.mp y]; exact hi) hj, if_pos (by simp [q2])]
        refine ⟨_, .inl ?_, F ++ [i], .val (.bl true), .val (.str (nm t.names i)), .val (.str (nm t.names j)), rfl, hF.add hi ⟨j, q2, adj_symm _ _ adj⟩ q1, trivial, trivial, hs2, .inl ⟨.inl rfl, more (by simp)⟩⟩
        simp (disch := tm_at "dj") [dK, i1, i2, pAt_true, a1, a2, e_sCp pg, -List.map_map, -List.map_append]
      · refine ⟨_, .inl ?_, F, g, .val (.str (nm t.names i)), .val (.str (nm t.names j)), rfl, hF, trivial, trivial, hs2, stay (by simp [q1, q2])⟩
        simp [dK, i1, i2, -List.map_map])
    ls [nms, l, x, .own false (dK (F0.map (nm t.names))), .val (.bl false), a, b] ⟨F0, _, a, b, rfl, hF, ha, hb, fun p hp => hp, .inr ⟨.inl rfl, rfl, fun p hp => .inl hp⟩⟩
  refine ⟨F, g, a1, b1, g1, g3, g4, g5, ?_⟩
  rcases g6.2 with z | ⟨z1, z2, z3⟩
  · exact .inl z
  · exact .inr ⟨z1, z2, fun p hp => (z3 p hp).resolve_left (by simp)⟩
theorem asc_mem {t : Tn} {n : Nat} (h : t.fits n) {p : Str × Str} : p ∈ ascL t.names t.links ↔ p ∈ t.links := by
  unfold ascL
  rw [List.mem_flatMap]
  constructor
  · rintro ⟨a, _, h2⟩
    obtain ⟨b, hb, rfl⟩ := List.mem_map.mp h2
    exact of_decide_eq_true (List.mem_filter.mp hb).2
  · intro hp
    obtain ⟨_, _, h1, h2, _⟩ := h.lks p hp
    exact ⟨p.1, (sortS_perm _).mem_iff.mpr h1, List.mem_map.mpr ⟨p.2, List.mem_filter.mpr ⟨(sortS_perm _).mem_iff.mpr h2, decide_eq_true hp⟩, rfl⟩⟩
theorem v_joined {t : Tn} {n k : Nat} (h : t.fits n) (hk : k < n) :
    m_joined_names [.lst (t.names.map .str), .tup ((ascL t.names t.links).map pairD), .str (nm t.names k)] = some (.ok (.own false (.lst ((Gr.grp t.adj n k).map fun i => .str (nm t.names i))))) := by
  have hn := h.ok.names
  have h4 := h.n4
  simp [m_joined_names]
  obtain ⟨ρ', g1, F, g, a, b, rfl, g3, g4, g5, g6, g7⟩ := wh_inv (t := mTest (mVar 4)) (body := sSeq (sSet 4 (toC (mC (.bl false)))) (sFor (itSeq (mVar 1)) (unD 2 (tgCons (tgN 5) (tgCons (tgN 6) tgNil))) jnB))
    (fun m ρ => ∃ (F : List Nat) (g : Cell) (gb : Bool) (a b : Cell), ρ = [.val (.lst (t.names.map .str)), .val (.tup ((ascL t.names t.links).map pairD)), .val (.str (nm t.names k)), .own false (dK (F.map (nm t.names))), g, a, b] ∧ Gr.FI t.adj n k F ∧ pl a ∧ pl b ∧ holds g (.bl gb) ∧
      m = 2 * (n - F.length) + (if gb = true then 1 else 0) ∧ (gb = false → ∀ p ∈ t.links, p.1 ∈ F.map (nm t.names) ↔ p.2 ∈ F.map (nm t.names)))
    (fun ρ => ∃ (F : List Nat) (g a b : Cell), ρ = [.val (.lst (t.names.map .str)), .val (.tup ((ascL t.names t.links).map pairD)), .val (.str (nm t.names k)), .own false (dK (F.map (nm t.names))), g, a, b] ∧ Gr.FI t.adj n k F ∧ pl a ∧ pl b ∧ pl g ∧ ∀ p ∈ t.links, p.1 ∈ F.map (nm t.names) ↔ p.2 ∈ F.map (nm t.names))
    (fun m ρ => by
      rintro ⟨F, g, gb, a, b, rfl, hF, ha, hb, hg, hm, hc⟩
      cases gb with
      | false =>
        refine .inl ⟨_, by rcases hg with rfl | rfl <;> simp <;> rfl, F, .val (.bl false), a, b, rfl, hF, ha, hb, trivial, hc rfl⟩
      | true =>
        obtain ⟨F', g', a', b', f1, f2, f3, f4, f5⟩ := jn_links h hk (ls := ascL t.names t.links) (fun p hp => (asc_mem h).mp hp) (nms := .val (.lst (t.names.map .str))) (l := .val (.tup ((ascL t.names t.links).map pairD))) (x := .val (.str (nm t.names k))) hF ha hb
        have l1 := hF.len hk
        have l2 := f2.len hk
        refine .inr ⟨[.val (.lst (t.names.map .str)), .val (.tup ((ascL t.names t.links).map pairD)), .val (.str (nm t.names k)), .own false (dK (F.map (nm t.names))), .val (.bl true), a, b], by rcases hg with rfl | rfl <;> simp, [.val (.lst (t.names.map .str)), .val (.tup ((ascL t.names t.links).map pairD)), .val (.str (nm t.names k)), .own false (dK (F'.map (nm t.names))), g', a', b'], ?_⟩
        have hb2 : (sSeq (sSet 4 (toC (mC (.bl false)))) (sFor (itSeq (mVar 1)) (unD 2 (tgCons (tgN 5) (tgCons (tgN 6) tgNil))) jnB)) [.val (.lst (t.names.map .str)), .val (.tup ((ascL t.names t.links).map pairD)), .val (.str (nm t.names k)), .own false (dK (F.map (nm t.names))), .val (.bl true), a, b] = some (.nx [.val (.lst (t.names.map .str)), .val (.tup ((ascL t.names t.links).map pairD)), .val (.str (nm t.names k)), .own false (dK (F'.map (nm t.names))), g', a', b']) := by
          simp
          exact f1
        rcases f5 with ⟨z1, z2⟩ | ⟨z1, z2, z3⟩
        · exact ⟨2 * (n - F'.length) + 1, .inl hb2, by simp at hm; omega, F', g', true, a', b', rfl, f2, f3, f4, z1, by simp, fun z => nomatch z⟩
        · subst z2
          exact ⟨2 * (n - F'.length), .inl hb2, by simp at hm; omega, F', g', false, a', b', rfl, f2, f3, f4, z1, by simp, fun _ p hp => z3 p ((asc_mem h).mpr hp)⟩)
    100000 (2 * (n - 1) + 1) [.val (.lst (t.names.map .str)), .val (.tup ((ascL t.names t.links).map pairD)), .val (.str (nm t.names k)), .own false (dK ([k].map (nm t.names))), .val (.bl true), .un, .un] (by omega) ⟨[k], _, true, .un, .un, rfl, .init, trivial, trivial, .inl rfl, by simp, fun z => nomatch z⟩
  have e0 : dK ([k].map (nm t.names)) = .dct 0 [.str (nm t.names k)] [.bl true] := rfl
  rw [e0] at g1
  rw [g1]
  have hlt : ∀ x ∈ F, x < n := fun x hx => (g3.rc x hx).lt hk
  have hcl := closed_of h hlt g7
  have hflt : t.names.filter (fun x => decide (x ∈ F.map (nm t.names))) = (Gr.grp t.adj n k).map (nm t.names) := by
    have e : ∀ ns : List Str, ns = t.names → ns.filter (fun x => decide (x ∈ F.map (nm t.names))) = ((List.range n).filter fun i => decide (nm t.names i ∈ F.map (nm t.names))).map (nm t.names) := fun ns q => by
      rw [q, ← hn]
      conv => lhs; arg 2; rw [← names_range t.names]
      rw [List.filter_map]
      rfl
    rw [e _ rfl]
    congr 1
    unfold Gr.grp
    refine List.filter_congr fun i hi => ?_
    have hi := List.mem_range.mp hi
    classical
    rw [Bool.eq_iff_iff, decide_eq_true_iff, decide_eq_true_iff, mem_keys h hlt hi]
    exact ⟨g3.rc i, fun r => g3.all hcl r⟩
  simp
  rw [lc_pure (fun x => decide (x ∈ F.map (nm t.names))) D.str]
  · rw [hflt]
    simp
  · intro x hx
    refine ⟨_, rfl, rfl, ?_, fun _ => rfl⟩
    have i1 := in_dct (names := F.map (nm t.names)) (vs := (F.map (nm t.names)).map fun _ => .bl true) (x := x) (by simp)
    simp [dK, i1, -List.map_map, -List.mem_map]
  · simp; omega
theorem v_group {t : Tn} {n k : Nat} (h : t.fits n) (hk : k < n) : m_Town_group [t.town, .str (nm t.names k)] = some (.ok (.own false (.lst ((Gr.grp t.adj n k).map fun i => .str (nm t.names i))))) := by
  have hn := h.ok.names
  have hm : nm t.names k ∈ t.names := List.mem_of_getElem? (nm_at (by omega))
  have vc := v_contains (t := t) (h.nms _ hm)
  have vn := v_names h.ok
  have vj := v_joined h hk
  simp [m_Town_group, vc, hm, vn, vj, townNs]
end Toy

namespace Toy
open PySem PySem.Spec PyProof.Rows L2 Kx Dm
local macro_rules | `(tactic| tm_at "dj") => `(tactic| first | (simp; done) | (simp; omega) | omega)
/-- the layout of the law's town -/
noncomputable def Tn.layout (t : Tn) (n : Nat) : Lay := { t.lay (Gr.grp t.adj n) with events := (evs n).map (Ev.D t.names) }
def Tn.till (t : Tn) (k : Nat) : Dm.D := Tl.D ⟨nm t.names k, t.limits.getD k 0, t.heeds.getD k false⟩
@[simp] theorem tn_tl {t : Tn} {k : Nat} : gFld [0] "limit" (t.till k) = some (.val (.int (t.limits.getD k 0))) := tl_limit _
@[simp] theorem tn_th {t : Tn} {k : Nat} : gFld [0] "heeds" (t.till k) = some (.val (.bl (t.heeds.getD k false))) := tl_heeds _
theorem v_layout {t : Tn} {n : Nat} (h : t.fits n) : m_Layout_init [.ins 2 [] [], t.town] = some (.ok (.val .non, (t.layout n).D)) := by
  have hn := h.ok.names
  have h4 := h.n4
  have vn := v_names h.ok
  have vm := v_most (m := t.most) h.ok.kind
  have ve := v_events h.ok
  have eN : t.names.map D.str = (List.range n).map fun k => D.str (nm t.names k) := by
    conv => lhs; rw [← names_range t.names, hn]
    rw [List.map_map]; rfl
  have eE : enumD ((List.range n).map fun k => D.str (nm t.names k)) = (List.range n).map fun (k : Nat) => D.tup [.int k, .str (nm t.names k)] := by
    unfold enumD
    rw [List.zipIdx_map, List.map_map]
    refine List.ext_getElem? fun i => ?_
    by_cases hi : i < n
    · simp [List.getElem?_range, hi]
    · simp [hi]
  have eK : ((List.range n).map (nm t.names)).Nodup := by rw [← hn, names_range]; exact h.ok.nd
  have eI : ∀ i, i < n → gIx (.dct 0 ((List.range n).map (D.str ∘ nm t.names)) ((List.range n).map fun (k : Nat) => D.int k)) (.str (nm t.names i)) = some (.val (.int i)) := fun i hi => by
    have := ix_name (names := t.names) (k := i) h.ok.nd (by omega)
    rw [eN] at this
    unfold idxs at this
    rw [hn] at this
    exact this
  have eL : t.limits.map D.int = (List.range n).map fun k => D.int (t.limits[k]?.getD 0) := by
    refine List.ext_getElem? fun i => ?_
    have := h.ok.limits
    by_cases hi : i < n
    · simp [List.getElem?_range, hi, this]
    · simp [hi]; omega
  have eH : t.heeds.map D.bl = (List.range n).map fun k => D.bl (t.heeds[k]?.getD false) := by
    refine List.ext_getElem? fun i => ?_
    have := h.ok.heeds
    by_cases hi : i < n
    · simp [List.getElem?_range, hi, this]
    · simp [hi]; omega
  rw [eN] at vn
  simp [m_Layout_init, vn, townNs]
  rw [lc_map (enc := fun k => D.str (nm t.names k)) (f := t.till)]
  · simp [eE]
    rw [dc_names0 (enc := fun (k : Nat) => D.tup [.int k, .str (nm t.names k)]) (nm t.names) (fun (k : Nat) => D.int k) ?_ eK (by simp; omega)]
    · simp
      rw [lc_map (enc := t.till) (f := fun k => D.int (t.limits.getD k 0))]
      · simp [-List.getD_eq_getElem?_getD]
        rw [lc_map (enc := t.till) (f := fun k => D.bl (t.heeds.getD k false))]
        · simp [-List.getD_eq_getElem?_getD]
          rw [lc_map (enc := fun k => D.str (nm t.names k)) (f := fun k => nns (Gr.grp t.adj n k))]
          · simp [-List.getD_eq_getElem?_getD, vm, ve]
            have e1 : (evs n).map (Ev.D t.names) ++ t.names.map againD = ((evs n).map Sum.inl ++ t.names.map Sum.inr).map (againsE t.names) := by
              rw [List.map_append, List.map_map, List.map_map]; rfl
            have hl := evs_len h.ok.ten
            rw [e1, lc_pure (fun x => match x with | .inl _ => true | .inr _ => false) (againsE t.names)]
            · simp [List.filter_append, List.filter_map, Function.comp_def, againsE]
              have f1 : ∀ (l : List Ev), l.filter (fun _ => true) = l := fun l => List.filter_eq_self.mpr fun _ _ => rfl
              have f2 : ∀ (l : List Str), l.filter (fun _ => false) = [] := fun l => List.filter_eq_nil_iff.mpr fun _ _ z => nomatch z
              rw [f1, f2]
              unfold Tn.layout Lay.D Tn.lay idxs bbs iis layNs
              simp only [eN, eL, eH, hn, List.map_map, Function.comp_def, List.map_nil, List.append_nil]
            · intro x hx
              rcases List.mem_append.mp hx with hx | hx
              · obtain ⟨e, he, rfl⟩ := List.mem_map.mp hx
                exact ⟨_, rfl, rfl, by cases e <;> simp [againsE, Ev.D], fun _ => by simp [againsE]⟩
              · obtain ⟨y, hy, rfl⟩ := List.mem_map.mp hx
                exact ⟨_, rfl, rfl, by simp [againsE, againD], fun _ => by simp⟩
            · simp; omega
          · intro k hk
            have hk : k < n := List.mem_range.mp hk
            have vg := v_group h hk
            refine ⟨_, rfl, rfl, ?_⟩
            simp [vg, townNs]
            rw [lc_map (enc := fun k => D.str (nm t.names k)) (f := fun (k : Nat) => D.int k)]
            · simp [nns]
            · intro i hi
              have hi : i < n := (Gr.grp_mem.mp hi).1
              exact ⟨_, rfl, rfl, by simp [eI i hi]⟩
            · have := Gr.grp_len (A := t.adj) (n := n) (k := k); omega
          · simp; omega
        · intro k hk
          exact ⟨_, rfl, rfl, by simp [-List.getD_eq_getElem?_getD]⟩
        · simp; omega
      · intro k hk
        exact ⟨_, rfl, rfl, by simp [-List.getD_eq_getElem?_getD]⟩
      · simp; omega
    · intro k hk
      exact ⟨_, rfl, rfl, by simp, by simp⟩
  · intro k hk
    have hk : k < n := List.mem_range.mp hk
    have hm : nm t.names k ∈ t.names := List.mem_of_getElem? (nm_at (by omega))
    have vg : m_Town_getitem [t.town, .str (nm t.names k)] = some (.ok (.val (t.till k))) := v_getitem h.ok hk (h.nms _ hm)
    refine ⟨_, rfl, rfl, ?_⟩
    simp [vg]
  · simp; omega
theorem v_msteps {t : Tn} {n : Nat} (h : t.fits n) {s : St} (hs : s.ok n) : m_steps [t.town, s.D] = some (.ok (.own false (.lst ((t.lay (Gr.grp t.adj n)).steps s (evs n))))) := by
  have hl := v_layout h
  have lo : (t.layout n).ok n := by
    have o := lay_ok (G := Gr.grp t.adj n) h.ok fun k hk => ⟨Nat.le_trans Gr.grp_len (by have := h.n4; omega), fun i hi => (Gr.grp_mem.mp hi).1⟩
    obtain ⟨a1, a2, a3, a4, a5, a6⟩ := o
    exact ⟨a1, a2, a3, a4, a5, a6⟩
  have vs := v_steps_from (L := t.layout n) (s := s) (es := evs n) lo h.ok.nd hs (fun e he => (evs_ok e he).1) (by have := evs_len h.ok.ten; omega) rfl
  have e : (t.layout n).steps s (evs n) = (t.lay (Gr.grp t.adj n)).steps s (evs n) := rfl
  rw [sd_get] at vs ⊢
  simp [m_steps, hl, vs, e]
/-- the law's groups are the town's -/
theorem t_grp {t : Tn} {n : Nat} (h : t.fits n) : Grp t n (Gr.grp t.adj n) where
  run := fun k hk => v_lgroup h hk
  mem := fun k hk => ⟨Nat.le_trans Gr.grp_len (by have := h.n4; omega), fun i hi => (Gr.grp_mem.mp hi).1⟩
  self := fun k hk => Gr.grp_mem.mpr ⟨hk, .self⟩
theorem t_eqv {t : Tn} {n : Nat} (h : t.fits n) : Eqv (t.lay (Gr.grp t.adj n)) n where
  self := fun k hk => by rw [lay_gr h.ok hk]; exact Gr.grp_mem.mpr ⟨hk, .self⟩
  same := fun k i hk hi => by
    rw [lay_gr h.ok hk] at hi
    rw [lay_gr h.ok hk, lay_gr h.ok (Gr.grp_mem.mp hi).1]
    exact Gr.grp_same adj_symm hk hi
end Toy

namespace Toy
open PySem PySem.Spec PyProof.Rows L2 Kx Dm
local macro_rules | `(tactic| tm_at "dj") => `(tactic| first | (simp; done) | (simp; omega) | omega)
def spair (a b : Str) : Str × Str := if Dm.leS a b then (a, b) else (b, a)
theorem sort_pair {a b : Str} : gSorted [.lst [.str a, .str b]] = some (.own false (.lst [.str (spair a b).1, .str (spair a b).2])) := by
  show some (Cell.own false (D.lst ((sortS [a, b]).map D.str))) = _
  rw [sort_two]
  unfold spair
  split <;> rfl
theorem spair_lt {a b : Str} (h : a ≠ b) : (spair a b).1.cps.toList < (spair a b).2.cps.toList := by
  unfold spair
  by_cases q : Dm.leS a b
  · rw [if_pos q]
    show a.cps.toList < b.cps.toList
    rcases List.le_iff_lt_or_eq.mp q with z | z
    · exact z
    · exact absurd (str_eqC z) h
  · rw [if_neg q]
    exact Classical.byContradiction fun z => q z
theorem spair_mem {a b x : Str} : x = (spair a b).1 ∨ x = (spair a b).2 → x = a ∨ x = b := by
  unfold spair
  split
  · exact id
  · exact fun h => h.symm
theorem spair_inj {a b c d : Str} (h : spair a b = spair c d) : (a = c ∧ b = d) ∨ (a = d ∧ b = c) := by
  unfold spair at h
  split at h <;> split at h <;> (injection h with h1 h2; simp [h1, h2])
theorem okName_str {x : Str} (h : okName x) : PyData.strOk x = true := by
  obtain ⟨_, _, h⟩ := h
  unfold PyData.strOk
  rw [← Array.all_toList]
  rw [List.all_eq_true] at h ⊢
  intro c hc
  have := h c hc
  unfold letter at this
  simp at this
  simp
  omega
/-- the pairs that were linked so far -/
structure LI (c one m : Nat) (idx : List (Nat × Nat)) : Prop where
  nd : idx.Nodup
  ok : ∀ q ∈ idx, q.1 < q.2 ∧ q.2 < c ∧ (q.1 < one ∨ (q.1 = one ∧ q.2 < one + 1 + m))
  len : idx.length ≤ 4 * one + m
theorem LI.init {c : Nat} : LI c 0 0 [] := ⟨by simp, by simp, by simp⟩
theorem LI.skip {c one m : Nat} {idx : List (Nat × Nat)} (h : LI c one m idx) : LI c one (m + 1) idx := ⟨h.nd, fun q hq => by have := h.ok q hq; omega, by have := h.len; omega⟩
theorem LI.add {c one m : Nat} {idx : List (Nat × Nat)} (h : LI c one m idx) (hm : one + 1 + m < c) : LI c one (m + 1) (idx ++ [(one, one + 1 + m)]) := by
  refine ⟨?_, fun q hq => ?_, by have := h.len; simp; omega⟩
  · rw [List.nodup_append]
    refine ⟨h.nd, by simp, fun x hx y hy e => ?_⟩
    rw [List.mem_singleton] at hy
    subst hy
    subst e
    have := h.ok _ hx
    simp at this
  · rcases List.mem_append.mp hq with q1 | q1
    · have := h.ok q q1; omega
    · rw [List.mem_singleton.mp q1]; simp; omega
theorem LI.turn {c one m : Nat} {idx : List (Nat × Nat)} (h : LI c one m idx) (hm : m ≤ 3) : LI c (one + 1) 0 idx := ⟨h.nd, fun q hq => by have := h.ok q hq; omega, by have := h.len; omega⟩
def lkOf (names : List Str) (idx : List (Nat × Nat)) : List (Str × Str) := idx.map fun q => spair (nm names q.1) (nm names q.2)
theorem LI.links {names : List Str} {c one m : Nat} {idx : List (Nat × Nat)} (h : LI c one m idx) (hc : names.length = c) (nd : names.Nodup) (ok : ∀ x ∈ names, okName x) : (∀ p ∈ lkOf names idx, linkOk names p) ∧ (lkOf names idx).Nodup := by
  have mem : ∀ i, i < c → nm names i ∈ names := fun i hi => List.mem_of_getElem? (nm_at (by omega))
  refine ⟨fun p hp => ?_, ?_⟩
  · obtain ⟨q, hq, rfl⟩ := List.mem_map.mp hp
    obtain ⟨h1, h2, _⟩ := h.ok q hq
    have ne : nm names q.1 ≠ nm names q.2 := fun e => by have := nm_inj nd (by omega) (by omega) e; omega
    have m1 : (spair (nm names q.1) (nm names q.2)).1 ∈ names := by
      rcases spair_mem (.inl rfl) with e | e <;> rw [e] <;> exact mem _ (by omega)
    have m2 : (spair (nm names q.1) (nm names q.2)).2 ∈ names := by
      rcases spair_mem (.inr rfl) with e | e <;> rw [e] <;> exact mem _ (by omega)
    exact ⟨ok _ m1, ok _ m2, m1, m2, spair_lt ne⟩
  · unfold lkOf
    refine List.pairwise_map.mpr ((List.Pairwise.imp_of_mem (fun {a b} ha hb hab z => ?_) h.nd))
    obtain ⟨a1, a2, _⟩ := h.ok a ha
    obtain ⟨b1, b2, _⟩ := h.ok b hb
    rcases spair_inj z with ⟨e1, e2⟩ | ⟨e1, e2⟩
    · have := nm_inj nd (by omega) (by omega) e1
      have := nm_inj nd (by omega) (by omega) e2
      exact hab (Prod.ext (by assumption) (by assumption))
    · have := nm_inj nd (by omega) (by omega) e1
      have := nm_inj nd (by omega) (by omega) e2
      omega
abbrev lkB : MS := sSeq (sSet 7 (mCB gTuple (mCons (frz (mCB gSorted (mCons (frz (mLst (mCons (frz (mCB gStr (mCons (frz (mOp gIx (mVar 3) (mVar 5))) mNil))) (mCons (frz (mCB gStr (mCons (frz (mOp gIx (mVar 3) (mVar 6))) mNil))) mNil)))) mNil))) mNil)))
    (sPut 4 (mC (.str "links")) (frz (mOp gAdd (mIxO 4 (mC (.str "links"))) (mIf (mTest (frz (mOp gEq (frz (mCallI m__law_draw 0 (mCons (mC (.int 3)) mNil))) (mC (.int 0))))) (frz (mLst (mCons (mVar 7) mNil))) (frz (mLst mNil))))))
def planD (names : List Str) (lims : List Dm.D) (lk : List (Str × Str)) (hs : List Dm.D) : Dm.D :=
  .dct 0 [.str "names", .str "limits", .str "links", .str "heeds"] [.lst (names.map .str), .lst lims, .lst (lk.map pairD), .lst hs]
section
variable {names : List Str} {lims hs : List Dm.D} {L L' : List (Str × Str)}
theorem plan_links : oIx (.str "links") (some (.own false (planD names lims L hs))) = some (.lst (L.map pairD)) := by
  unfold planD
  exact e_oIxD (by simp)
theorem plan_put {ρ : DEnv} {d : Dm.D} (h : d = .lst (L'.map pairD)) : pAt 4 (.str "links") d ρ (some (.own false (planD names lims L hs))) = some (ρ.set 4 (.own false (planD names lims L' hs))) := by
  subst h
  unfold planD
  refine (e_pAtD (p := ([.str "names", .str "limits", .str "links", .str "heeds"], [.lst (names.map .str), .lst lims, .lst (L'.map pairD), .lst hs])) (by simp) (by simp)).trans rfl
end
theorem lk_inner {names : List Str} {c one : Nat} {lims hs : List Dm.D} (hc : names.length = c) (c4 : c ≤ 4) (ho : one < c) {x y : Dm.D} {p : Pl} {idx : List (Nat × Nat)} {b d : Cell} (hI : LI c one 0 idx) (hb : pl b) (hd : pl d) :
    ∃ (p' : Pl) (idx' : List (Nat × Nat)) (b' d' : Cell), forGo (tgN 6) lkB ((List.range (c - (one + 1))).map fun (m : Nat) => D.int ((one : Int) + 1 + m)) [.own true p.D, .val x, .val y, .val (.lst (names.map .str)), .own false (planD names lims (lkOf names idx) hs), .val (.int one), b, d, .un] =
      some (.nx [.own true p'.D, .val x, .val y, .val (.lst (names.map .str)), .own false (planD names lims (lkOf names idx') hs), .val (.int one), b', d', .un]) ∧ LI c (one + 1) 0 idx' ∧ pl b' ∧ pl d' := by
  obtain ⟨ρ', g1, m, idx', p', b', d', g2, rfl, g3, g0, g4, g5⟩ := for_inv (tf := tgN 6) (body := lkB) (enc := fun (m : Nat) => D.int ((one : Int) + 1 + m))
    (fun rest ρ => ∃ (m : Nat) (idx : List (Nat × Nat)) (p : Pl) (b d : Cell), rest = (List.range (c - (one + 1))).drop m ∧ ρ = [.own true p.D, .val x, .val y, .val (.lst (names.map .str)), .own false (planD names lims (lkOf names idx) hs), .val (.int one), b, d, .un] ∧ LI c one m idx ∧ m ≤ c - (one + 1) ∧ pl b ∧ pl d)
    (fun x rest ρ => by
      rintro ⟨m, idx, p, b, d, hr, rfl, hI, hmc, hb, hd⟩
      have hm : m < c - (one + 1) := by
        have := congrArg List.length hr
        simp at this; omega
      have hx : x = m ∧ rest = (List.range (c - (one + 1))).drop (m + 1) := by
        rw [List.drop_eq_getElem_cons (by simpa using hm)] at hr
        simp at hr
        exact ⟨hr.1, hr.2⟩
      obtain ⟨rfl, rfl⟩ := hx
      refine ⟨_, by simp [e_sCp hb]; rfl, ?_⟩
      have hl := hI.len
      have a1 := nm_at (names := names) (k := one) (by omega)
      have a2 := nm_at (names := names) (k := one + 1 + x) (by omega)
      have ej : atI (names.map D.str) ((one : Int) + 1 + (x : Nat)) = some (.str (nm names (one + 1 + x))) := by
        have e : (one : Int) + 1 + (x : Nat) = ((one + 1 + x : Nat) : Int) := by omega
        rw [e, at_nat, List.getElem?_map, a2]; rfl
      have ei : atI (names.map D.str) (one : Int) = some (.str (nm names one)) := by rw [at_nat, List.getElem?_map, a1]; rfl
      have sp := @sort_pair (nm names one) (nm names (one + 1 + x))
      have dr := v_draw (p := p) (m := 3) (by decide) (by decide)
      have hll : (lkOf names idx).length ≤ 100 := by unfold lkOf; rw [List.length_map]; omega
      have e2 : lkOf names (idx ++ [(one, one + 1 + x)]) = lkOf names idx ++ [spair (nm names one) (nm names (one + 1 + x))] := by simp [lkOf]
      by_cases q : p.draw 3 = 0
      · refine ⟨_, .inl ?_, x + 1, idx ++ [(one, one + 1 + x)], p.next 3, .val (.int ((one : Int) + 1 + x)), .val (pairD (spair (nm names one) (nm names (one + 1 + x)))), rfl, rfl, hI.add (by omega), by omega, trivial, trivial⟩
        rw [e2]
        simp (disch := tm_at "dj") [ej, ei, sp, e_sCp hd, dr, q, plan_links]
        rw [plan_put (L' := lkOf names idx ++ [spair (nm names one) (nm names (one + 1 + x))]) (by simp [pairD])]
        simp
        rfl
      · refine ⟨_, .inl ?_, x + 1, idx, p.next 3, .val (.int ((one : Int) + 1 + x)), .val (pairD (spair (nm names one) (nm names (one + 1 + x)))), rfl, rfl, hI.skip, by omega, trivial, trivial⟩
        simp (disch := tm_at "dj") [ej, ei, sp, e_sCp hd, dr, q, plan_links]
        rw [plan_put (L' := lkOf names idx) rfl]
        simp
        rfl)
    (List.range (c - (one + 1))) [.own true p.D, .val x, .val y, .val (.lst (names.map .str)), .own false (planD names lims (lkOf names idx) hs), .val (.int one), b, d, .un] ⟨0, idx, p, b, d, by simp, rfl, hI, by omega, hb, hd⟩
  have hm : c - (one + 1) ≤ m := by
    have := congrArg List.length g2
    simp at this; omega
  obtain rfl : m = c - (one + 1) := by omega
  exact ⟨p', idx', b', d', g1, g3.turn (by omega), g4, g5⟩
theorem lk_outer {names : List Str} {c : Nat} {lims hs : List Dm.D} (hc : names.length = c) (c4 : c ≤ 4) {x y : Dm.D} {p : Pl} :
    ∃ (p' : Pl) (idx' : List (Nat × Nat)) (a' b' d' : Cell), forGo (tgN 5) (sFor (itRng2 (mCons (frz (mOp gAdd (mVar 5) (mC (.int 1)))) (mCons (frz (mCB gLen (mCons (mVar 3) mNil))) mNil))) (tgN 6) lkB) ((List.range c).map fun (i : Nat) => D.int (i : Nat)) [.own true p.D, .val x, .val y, .val (.lst (names.map .str)), .own false (planD names lims [] hs), .un, .un, .un, .un] =
      some (.nx [.own true p'.D, .val x, .val y, .val (.lst (names.map .str)), .own false (planD names lims (lkOf names idx') hs), a', b', d', .un]) ∧ LI c c 0 idx' ∧ pl a' ∧ pl b' ∧ pl d' := by
  obtain ⟨ρ', g1, m, idx', p', a', b', d', g2, rfl, g3, g0, g4, g5, g6⟩ := for_inv (tf := tgN 5) (body := sFor (itRng2 (mCons (frz (mOp gAdd (mVar 5) (mC (.int 1)))) (mCons (frz (mCB gLen (mCons (mVar 3) mNil))) mNil))) (tgN 6) lkB) (enc := fun (i : Nat) => D.int (i : Nat))
    (fun rest ρ => ∃ (m : Nat) (idx : List (Nat × Nat)) (p : Pl) (a b d : Cell), rest = (List.range c).drop m ∧ ρ = [.own true p.D, .val x, .val y, .val (.lst (names.map .str)), .own false (planD names lims (lkOf names idx) hs), a, b, d, .un] ∧ LI c m 0 idx ∧ m ≤ c ∧ pl a ∧ pl b ∧ pl d)
    (fun i rest ρ => by
      rintro ⟨m, idx, p, a, b, d, hr, rfl, hI, hmc, ha, hb, hd⟩
      have hm : m < c := by
        have := congrArg List.length hr
        simp at this; omega
      have hx : i = m ∧ rest = (List.range c).drop (m + 1) := by
        rw [List.drop_eq_getElem_cons (by simpa using hm)] at hr
        simp at hr
        exact ⟨hr.1, hr.2⟩
      obtain ⟨rfl, rfl⟩ := hx
      obtain ⟨p', idx', b', d', f1, f2, f3, f4⟩ := lk_inner (lims := lims) (hs := hs) hc c4 hm (x := x) (y := y) (p := p) hI hb hd
      have s1 : small62 ((i : Int) + 1) = true := by
        unfold small62
        rw [Bool.and_eq_true]
        constructor <;> apply decide_eq_true <;> omega
      have s2 : small62 (c : Int) = true := by
        unfold small62
        rw [Bool.and_eq_true]
        constructor <;> apply decide_eq_true <;> omega
      have e1 : ((c : Int) - ((i : Int) + 1)).toNat = c - (i + 1) := by omega
      refine ⟨_, by simp [e_sCp ha]; rfl, _, .inl ?_, i + 1, idx', p', .val (.int i), b', d', rfl, rfl, f2, by omega, trivial, f3, f4⟩
      simp (disch := tm_at "dj") [hc, s1, s2, e1, rngD]
      exact f1)
    (List.range c) [.own true p.D, .val x, .val y, .val (.lst (names.map .str)), .own false (planD names lims [] hs), .un, .un, .un, .un] ⟨0, [], p, .un, .un, .un, by simp, rfl, .init, by omega, trivial, trivial, trivial⟩
  have hm : c ≤ m := by
    have := congrArg List.length g2
    simp at this; omega
  obtain rfl : m = c := by omega
  exact ⟨p', idx', a', b', d', g1, g3, g4, g5, g6⟩
end Toy

namespace Toy
open PySem PySem.Spec PyProof.Rows L2 Kx Dm
local macro_rules | `(tactic| tm_at "dj") => `(tactic| first | (simp; done) | (simp; omega) | omega)
theorem v_memo {p : Pl} : ∃ (k : Str) (m : Int), (k = "nothing" ∨ k = "times" ∨ k = "sum") ∧ 0 ≤ m ∧ m ≤ 9 ∧
    m__law_pick [p.D, .lst [.tup [.str "nothing"], .tup [.str "times", .int 1], .tup [.str "times", .int 2], .tup [.str "sum", .int 1], .tup [.str "sum", .int 2], .tup [.str "sum", .int 3]]] = some (.ok (.val (memD' k m), (p.next 6).D)) := by
  obtain ⟨r0, r1⟩ := draw_in p (m := 6) (by decide)
  have hr : (p.draw 6).toNat = 0 ∨ (p.draw 6).toNat = 1 ∨ (p.draw 6).toNat = 2 ∨ (p.draw 6).toNat = 3 ∨ (p.draw 6).toNat = 4 ∨ (p.draw 6).toNat = 5 := by omega
  rcases hr with h | h | h | h | h | h
  · exact ⟨"nothing", 0, .inl rfl, by decide, by decide, v_pick (xs := [.tup [.str "nothing"], .tup [.str "times", .int 1], .tup [.str "times", .int 2], .tup [.str "sum", .int 1], .tup [.str "sum", .int 2], .tup [.str "sum", .int 3]]) (by decide) (by decide) (by simp [h, memD'])⟩
  · exact ⟨"times", 1, .inr (.inl rfl), by decide, by decide, v_pick (xs := [.tup [.str "nothing"], .tup [.str "times", .int 1], .tup [.str "times", .int 2], .tup [.str "sum", .int 1], .tup [.str "sum", .int 2], .tup [.str "sum", .int 3]]) (by decide) (by decide) (by simp [h, memD'])⟩
  · exact ⟨"times", 2, .inr (.inl rfl), by decide, by decide, v_pick (xs := [.tup [.str "nothing"], .tup [.str "times", .int 1], .tup [.str "times", .int 2], .tup [.str "sum", .int 1], .tup [.str "sum", .int 2], .tup [.str "sum", .int 3]]) (by decide) (by decide) (by simp [h, memD'])⟩
  · exact ⟨"sum", 1, .inr (.inr rfl), by decide, by decide, v_pick (xs := [.tup [.str "nothing"], .tup [.str "times", .int 1], .tup [.str "times", .int 2], .tup [.str "sum", .int 1], .tup [.str "sum", .int 2], .tup [.str "sum", .int 3]]) (by decide) (by decide) (by simp [h, memD'])⟩
  · exact ⟨"sum", 2, .inr (.inr rfl), by decide, by decide, v_pick (xs := [.tup [.str "nothing"], .tup [.str "times", .int 1], .tup [.str "times", .int 2], .tup [.str "sum", .int 1], .tup [.str "sum", .int 2], .tup [.str "sum", .int 3]]) (by decide) (by decide) (by simp [h, memD'])⟩
  · exact ⟨"sum", 3, .inr (.inr rfl), by decide, by decide, v_pick (xs := [.tup [.str "nothing"], .tup [.str "times", .int 1], .tup [.str "times", .int 2], .tup [.str "sum", .int 1], .tup [.str "sum", .int 2], .tup [.str "sum", .int 3]]) (by decide) (by decide) (by simp [h, memD'])⟩
theorem v_plan {p : Pl} : ∃ (t : Tn) (n : Nat) (p' : Pl), m__law_plan [p.D, .int 3, .int 3] = some (.ok (.own false t.D, p'.D)) ∧ t.fits n ∧ n ≤ 3 := by
  have d1 := v_draw (p := p) (m := 3) (by decide) (by decide)
  obtain ⟨r0, r1⟩ := draw_in p (m := 3) (by decide)
  obtain ⟨c, hc⟩ : ∃ c : Nat, 1 + p.draw 3 = c := ⟨(1 + p.draw 3).toNat, by omega⟩
  have c1 : 1 ≤ c := by omega
  have c3 : c ≤ 3 := by omega
  obtain ⟨e, o, r, he, hr0, hr1, p1, hN⟩ := v_lnames (p := p.next 3) (c := c) (by omega)
  generalize hns : (List.range c).map (nameK e o (1 + 2 * r)) = names at hN
  have hlen : names.length = c := by rw [← hns]; simp
  simp [m__law_plan, d1, hc, hN]
  obtain ⟨p2, lims, hl, hl1, hl2⟩ := draws_lc (xs := names) (m := 4) (p := p1) (b := true) (g := .int) (by decide) (by decide) (by omega) (tl := [.val (.int 3), .val (.int 3), .val (.lst (names.map .str)), .un, .un, .un, .un]) (te := frz (mCallI m__law_draw 0 (mCons (frz (mOp gAdd (mVar 2) (mC (D.int 1)))) mNil)))
    (fun p x => by simp [v_draw (p := p) (m := 4) (by decide) (by decide)]) [8] (tgN 8) (fun c d => rfl) (fun c x => rfl)
  simp at hl
  rw [hl]
  simp
  obtain ⟨p3, hs, hh, hh1, hh2⟩ := draws_lc (xs := names) (m := 4) (p := p2) (b := true) (g := fun z => .bl (decide (0 < z))) (by decide) (by decide) (by omega) (tl := [.val (.int 3), .val (.int 3), .val (.lst (names.map .str)), .own false
                          (D.dct 0
                            [D.str (Str.ofString "names"), D.str (Str.ofString "limits"), D.str (Str.ofString "links")]
                            [D.lst (List.map D.str names), D.lst (List.map D.int lims), D.lst []]), .un, .un, .un]) (te := frz (mOp gGt (frz (mCallI m__law_draw 0 (mCons (mC (D.int 4)) mNil))) (mC (D.int 0))))
    (fun p x => by simp [v_draw (p := p) (m := 4) (by decide) (by decide)]) [8] (tgN 8) (fun c d => rfl) (fun c x => rfl)
  simp at hh
  rw [hh]
  simp
  obtain ⟨p4, idx, a', b', d', h1, h2, h3, h4, h5⟩ := lk_outer (lims := lims.map .int) (hs := hs.map fun z => .bl (decide (0 < z))) hlen (by omega) (x := .int 3) (y := .int 3) (p := p3)
  have s2 : small62 (c : Int) = true := by
    unfold small62
    rw [Bool.and_eq_true]
    constructor <;> apply decide_eq_true <;> omega
  simp [planD, lkOf] at h1
  simp [hlen, s2, rngD_eq, h1]
  have dm := v_draw (p := p4) (m := 4) (by decide) (by decide)
  obtain ⟨m0, m1⟩ := draw_in p4 (m := 4) (by decide)
  have dt := v_draw (p := p4.next 4) (m := 3) (by decide) (by decide)
  obtain ⟨t0, t1⟩ := draw_in (p4.next 4) (m := 3) (by decide)
  obtain ⟨k, mo, hk, hmo0, hmo9, vp⟩ := v_memo (p := (p4.next 4).next 3)
  have dn := v_draw (p := ((p4.next 4).next 3).next 6) (m := 3) (by decide) (by decide)
  generalize hM : p4.draw 4 = mon at dm m0 m1
  generalize hT : (p4.next 4).draw 3 = top at dt t0 t1
  generalize hB : (((p4.next 4).next 3).next 6).draw 3 = bn at dn
  refine ⟨⟨names, lims, lkOf names idx, hs.map fun z => decide (0 < z), mon, top, k, mo, decide (0 < bn)⟩, ⟨(((p4.next 4).next 3).next 6).next 3, ?_⟩, c, ?_, c3⟩
  rotate_left
  · have nd : names.Nodup := by rw [← hns]; exact names_nodup ⟨hr0, hr1⟩ (by omega)
    have nok : ∀ x ∈ names, okName x := fun x hx => by
      rw [← hns] at hx
      obtain ⟨i, _, rfl⟩ := List.mem_map.mp hx
      exact nameK_ok he
    obtain ⟨L1, L2⟩ := h2.links hlen nd nok
    have sok : ∀ x ∈ names, PyData.strOk x = true := fun x hx => okName_str (nok x hx)
    have hlen2 := h2.len
    refine ⟨⟨by omega, hlen, by rw [← hlen]; exact hl1, by simp [hh1, hlen], nd, sok, hk⟩, c1, by omega, nok, fun i hi => ?_, L1, L2, by unfold lkOf; rw [List.length_map]; omega, ⟨hmo0, hmo9⟩, ⟨m0, by show mon ≤ 9; omega⟩, ⟨t0, by show top ≤ 5; omega⟩, fun q hq => ?_, fun x hx => sok x ((sortS_perm _).mem_iff.mp hx), by rw [(sortS_perm _).length_eq]; show names.length ≤ 10; omega⟩
    · have := i_at (xs := lims) (k := i) (by omega)
      have := hl2 _ (List.mem_of_getElem? this)
      show 0 ≤ lims.getD i 0 ∧ lims.getD i 0 ≤ 9
      omega
    · obtain ⟨_, _, q1, q2, _⟩ := L1 q hq
      exact ⟨sok _ q1, sok _ q2⟩
  · simp [dm, dt, vp, dn, Tn.D, lkOf, Function.comp_def]
end Toy

namespace Toy
open PySem PySem.Spec PyProof.Rows L2 Kx Dm
local macro_rules | `(tactic| tm_at "dj") => `(tactic| first | (simp; done) | (simp; omega) | omega)
theorem okD_tup {n : Nat} {ds : List Dm.D} (h : ∀ d ∈ ds, okD n d = true) : okD (n + 1) (.tup ds) = true := List.all_eq_true.mpr h
theorem ok_cut : PyData.strOk (Str.ofString "cut") = true := by decide +kernel
theorem ok_line : PyData.strOk (Str.ofString "line") = true := by decide +kernel
theorem ok_pay : PyData.strOk (Str.ofString "pay") = true := by decide +kernel
theorem ok_top : PyData.strOk (Str.ofString "top") = true := by decide +kernel
theorem ok_lose : PyData.strOk (Str.ofString "lose") = true := by decide +kernel
theorem ok_done : PyData.strOk (Str.ofString "done") = true := by decide +kernel
theorem ok_house : PyData.strOk (Str.ofString "house") = true := by decide +kernel
theorem ok_taken : PyData.strOk (Str.ofString "taken") = true := by decide +kernel
theorem ok_list : PyData.strOk (Str.ofString "list") = true := by decide +kernel
theorem ok_limit : PyData.strOk (Str.ofString "limit") = true := by decide +kernel
theorem ok_memory : PyData.strOk (Str.ofString "memory") = true := by decide +kernel
theorem ev_okD {names : List Str} {e : Ev} {n m : Nat} (he : e.ok n) (hn : names.length = n) (hs : ∀ x ∈ names, PyData.strOk x = true) : okD (m + 1) (e.D names) = true := by
  have hx : ∀ k, k < n → PyData.strOk (nm names k) = true := fun k hk => hs _ (List.mem_of_getElem? (nm_at (by omega)))
  cases e with
  | cut k => have := hx k he; exact okD_tup (by simp [ok_cut, this])
  | line k => have := hx k he; exact okD_tup (by simp [ok_line, this])
  | pay k u => have := hx k he; exact okD_tup (by simp [ok_pay, this])
  | top u => exact okD_tup (by simp [ok_top])
  | lose => exact okD_tup (by simp [ok_lose])
theorem st_okD {s : St} {m : Nat} : okD (m + 2) s.D = true := by
  refine okD_tup ?_
  simp only [List.mem_cons, List.not_mem_nil, or_false]
  rintro d (rfl | rfl | rfl | rfl | rfl | rfl | rfl)
  · exact okD_flatT fun _ _ => okD_bl
  · exact okD_flatT fun _ _ => okD_int
  · exact okD_flatT fun _ _ => okD_bl
  all_goals simp
theorem word_ok {L : Lay} {s : St} {k : Nat} {u : Int} : PyData.strOk (L.word s k u) = true := by
  unfold Lay.word
  repeat' split
  all_goals first | exact ok_house | exact ok_taken | exact ok_list | exact ok_limit | exact ok_memory
theorem row_okD {L : Lay} {s : St} {e : Ev} {n : Nat} (he : e.ok n) (hn : L.names.length = n) (hs : ∀ x ∈ L.names, PyData.strOk x = true) : okD 63 (L.row s e) = true := by
  refine okD_tup ?_
  simp only [List.mem_cons, List.not_mem_nil, or_false]
  rintro d (rfl | rfl | rfl)
  · exact ev_okD he hn hs
  · refine okD_str ?_
    cases e <;> first | exact ok_done | exact word_ok
  · exact st_okD
theorem ne_rows {L : Lay} {s : St} {n : Nat} (hn : L.names.length = n) (hs : ∀ x ∈ L.names, PyData.strOk x = true) : gNe (.lst (L.steps s (evs n))) (.lst (L.steps s (evs n))) = some (.val (.bl false)) := by
  refine (g_ne (eqL_refl (okD_flat (n := 63) fun e he => ?_))).trans rfl
  have := List.mem_filter.mp he
  exact row_okD (evs_ok e this.1).1 hn hs
/-- there is always a step: a loss, or a payment -/
theorem steps_pos {L : Lay} {s : St} {n : Nat} (h1 : 1 ≤ n) : 1 ≤ (L.steps s (evs n)).length := by
  unfold Lay.steps
  rw [List.length_map]
  have : (Ev.pay 0 1) ∈ (evs n).filter (can s) := by
    refine List.mem_filter.mpr ⟨?_, rfl⟩
    unfold evs
    simp
    omega
  exact List.length_pos_of_mem this
end Toy

namespace Toy
open PySem PySem.Spec PyProof.Rows L2 Kx Dm
local macro_rules | `(tactic| tm_at "dj") => `(tactic| first | (simp; done) | (simp; omega) | omega)
abbrev lwB : MS := sSeq (sSet 7 (mCall m__law_steps (mCons (mVar 3) (mCons (mVar 5) mNil))))
    (sSeq (sIf (mTest (frz (mOp gNe (frz (mCall m_steps (mCons (mVar 4) (mCons (mVar 5) mNil)))) (mVar 7)))) (sRet (toC (mC (.bl false)))) sNx)
    (sSet 5 (mOp gIx (frz (mCallI m__law_pick 2 (mCons (mVar 7) mNil))) (mC (.int 2)))))
theorem lw_step {t : Tn} {n : Nat} (h : t.fits n) {s : St} (hs : Good (t.lay (Gr.grp t.adj n)) n s) {p : Pl} {x k a : Dm.D} {b : Cell} (hb : pl b) :
    ∃ (p' : Pl) (s' : St) (b' : Cell), lwB [.val x, .val k, .own false p.D, .val t.D, .val t.town, .val s.D, .val a, b] = some (.nx [.val x, .val k, .own false p'.D, .val t.D, .val t.town, .val s'.D, .val a, b']) ∧ Good (t.lay (Gr.grp t.adj n)) n s' ∧ pl b' := by
  have hn := h.ok.names
  have h4 := h.n4
  have v1 := v_lsteps h.ok (t_grp h) hs
  have v2 := v_msteps h hs.ok
  have ne := ne_rows (L := t.lay (Gr.grp t.adj n)) (s := s) (n := n) hn h.ok.str
  have lo : (t.lay (Gr.grp t.adj n)).ok n := lay_ok h.ok (t_grp h).mem
  have l1 := steps_pos (L := t.lay (Gr.grp t.adj n)) (s := s) h.n1
  have l2 : ((t.lay (Gr.grp t.adj n)).steps s (evs n)).length ≤ 50 := by
    unfold Lay.steps
    rw [List.length_map]
    exact Nat.le_trans (List.length_filter_le _ _) (evs_len h.ok.ten)
  obtain ⟨r0, r1⟩ := draw_in p (m := ((t.lay (Gr.grp t.adj n)).steps s (evs n)).length) (by omega)
  obtain ⟨e, he, hd⟩ : ∃ e ∈ (evs n).filter (can s), ((t.lay (Gr.grp t.adj n)).steps s (evs n))[(p.draw ((t.lay (Gr.grp t.adj n)).steps s (evs n)).length).toNat]? = some ((t.lay (Gr.grp t.adj n)).row s e) := by
    have q := List.getElem?_eq_getElem (l := (t.lay (Gr.grp t.adj n)).steps s (evs n)) (i := (p.draw ((t.lay (Gr.grp t.adj n)).steps s (evs n)).length).toNat) (by omega)
    have m := List.mem_of_getElem? q
    unfold Lay.steps at m
    obtain ⟨e, he, ee⟩ := List.mem_map.mp m
    refine ⟨e, he, ?_⟩
    rw [q]
    exact congrArg some ee.symm
  have vp := v_pick l1 (by omega) hd
  obtain ⟨he1, he2⟩ := List.mem_filter.mp he
  obtain ⟨k1, k2, k3⟩ := evs_ok e he1
  refine ⟨p.next ((t.lay (Gr.grp t.adj n)).steps s (evs n)).length, ((t.lay (Gr.grp t.adj n)).move s e).1, .val (.lst ((t.lay (Gr.grp t.adj n)).steps s (evs n))), ?_, hs.move lo (t_eqv h) k1 he2 k2, trivial⟩
  generalize hR : (t.lay (Gr.grp t.adj n)).steps s (evs n) = R at *
  generalize hS : ((t.lay (Gr.grp t.adj n)).move s e).1 = s' at *
  have ix : gIx ((t.lay (Gr.grp t.adj n)).row s e) (.int 2) = some (.val s'.D) := by
    rw [← hS]
    unfold Lay.row
    simp
  rw [sd_get s] at v1 v2
  simp [e_sCp hb, v1, v2, ne, vp, ix]
theorem lw_loop {t : Tn} {n : Nat} (h : t.fits n) {s : St} (hs : Good (t.lay (Gr.grp t.adj n)) n s) {p : Pl} {x k : Dm.D} {a b : Cell} (ha : pl a) (hb : pl b) (l : List Nat) :
    ∃ (p' : Pl) (s' : St) (a' b' : Cell), forGo (tgN 6) lwB (l.map fun (i : Nat) => D.int (i : Nat)) [.val x, .val k, .own false p.D, .val t.D, .val t.town, .val s.D, a, b] = some (.nx [.val x, .val k, .own false p'.D, .val t.D, .val t.town, .val s'.D, a', b']) ∧ pl a' ∧ pl b' := by
  obtain ⟨ρ', g1, p', s', a', b', rfl, g2, g3, g4⟩ := for_inv (tf := tgN 6) (body := lwB) (enc := fun (i : Nat) => D.int (i : Nat))
    (fun _ ρ => ∃ (p : Pl) (s : St) (a b : Cell), ρ = [.val x, .val k, .own false p.D, .val t.D, .val t.town, .val s.D, a, b] ∧ Good (t.lay (Gr.grp t.adj n)) n s ∧ pl a ∧ pl b)
    (fun i rest ρ => by
      rintro ⟨p, s, a, b, rfl, hs, ha, hb⟩
      obtain ⟨p', s', b', f1, f2, f3⟩ := lw_step h hs (p := p) (x := x) (k := k) (a := .int i) hb
      exact ⟨_, by simp [e_sCp ha], _, .inl f1, p', s', _, b', rfl, f2, trivial, f3⟩)
    l [.val x, .val k, .own false p.D, .val t.D, .val t.town, .val s.D, a, b] ⟨p, s, a, b, rfl, hs, ha, hb⟩
  exact ⟨p', s', a', b', g1, g3, g4⟩
abbrev lwO : MS := sSeq (sSet 2 (mCall m__law_pool (mCons (mVar 0) (mCons (mVar 1) mNil))))
    (sSeq (sSet 3 (mCallI m__law_plan 2 (mCons (mC (.int 3)) (mCons (mC (.int 3)) mNil))))
    (sSeq (sPar 4 5 (mCons (frz (mCall m__law_made (mCons (mVar 3) mNil))) (mCons (frz (mCall m__law_first (mCons (mVar 3) mNil))) mNil)))
    (sFor (itRng1 (mCons (mC (.int 40)) mNil)) (tgN 6) lwB)))
theorem lw_outer {ns : List Int} {l : List Nat} (hl : ∀ x ∈ l, x ≤ 100) :
    ∃ a b c d e f g, forGo (tgN 1) lwO (l.map fun (i : Nat) => D.int (i : Nat)) [.val (.scr ns), .un, .un, .un, .un, .un, .un, .un] = some (.nx [.val (.scr ns), a, b, c, d, e, f, g]) := by
  obtain ⟨ρ', g1, a, b, c, d, e, f, g, rfl, _⟩ := for_inv (tf := tgN 1) (body := lwO) (enc := fun (i : Nat) => D.int (i : Nat))
    (fun rest ρ => ∃ a b c d e f g, ρ = [.val (.scr ns), a, b, c, d, e, f, g] ∧ (∀ x ∈ rest, x ≤ 100) ∧ pl a ∧ pl b ∧ pl c ∧ pl d ∧ pl e ∧ pl f ∧ pl g)
    (fun i rest ρ => by
      rintro ⟨a, b, c, d, e, f, g, rfl, hr, ha, hb, hc, hd, he, hf, hg⟩
      obtain ⟨p, vp⟩ := v_pool (ns := ns) (k := i) (hr i List.mem_cons_self)
      obtain ⟨t, n, p', vl, ht, _⟩ := v_plan (p := p)
      have vm := v_made ht
      have vf := v_first ht.ok ht.n1
      have gF := first_good (G := Gr.grp t.adj n) ht.ok ht.t0.1 (t_grp ht).mem
      obtain ⟨p2, s2, a2, b2, q1, q2, q3⟩ := lw_loop ht gF (p := p') (x := .scr ns) (k := .int i) hf hg (List.range 40)
      rw [sd_get t.first] at vf q1
      refine ⟨[.val (.scr ns), .val (.int i), b, c, d, e, f, g], by simp [e_sCp ha], _, .inl ?_, .val (.int i), .own false p2.D, .val t.D, .val t.town, .val s2.D, a2, b2, rfl, fun x hx => hr x (List.mem_cons_of_mem _ hx), trivial, trivial, trivial, trivial, trivial, q2, q3⟩
      have s40 : small62 (40 : Int) = true := by decide +kernel
      rw [show (List.range 40).map (fun (i : Nat) => D.int (i : Nat)) = rngD 0 (40 : Int).toNat from (rngD_eq 40).symm] at q1
      simp (disch := tm_at "dj") [e_sCp hb, e_sCp hc, e_sCp hd, e_sCp he, vp, vl, vm, vf, s40]
      simpa using q1)
    l [.val (.scr ns), .un, .un, .un, .un, .un, .un, .un] ⟨.un, .un, .un, .un, .un, .un, .un, rfl, hl, trivial, trivial, trivial, trivial, trivial, trivial, trivial⟩
  exact ⟨a, b, c, d, e, f, g, g1⟩
theorem law_true (ns : List Int) (h63 : ns.length ≤ 63) : m_law [.scr ns] = Dm.yes := by
  obtain ⟨K, hK, hK3⟩ : ∃ K : Nat, (if (1 : Int) < if (3 : Int) < ns.length then 3 else (ns.length : Int) then if (3 : Int) < ns.length then 3 else (ns.length : Int) else 1) = (K : Int) ∧ K ≤ 3 := by
    by_cases h1 : (3 : Int) < ns.length
    · exact ⟨3, by simp [h1], by decide⟩
    · by_cases h2 : (1 : Int) < ns.length
      · exact ⟨ns.length, by simp [h1]; omega, by omega⟩
      · exact ⟨1, by simp [h1]; omega, by decide⟩
  have s2 : small62 (K : Int) = true := by
    unfold small62
    rw [Bool.and_eq_true]
    constructor <;> apply decide_eq_true <;> omega
  obtain ⟨a, b, c, d, e, f, g, h⟩ := lw_outer (ns := ns) (l := List.range K) (fun x hx => by have := List.mem_range.mp hx; omega)
  simp [m_law, hK, s2, rngD_eq, h]
  rfl
end Toy

namespace Toy
open PySem PySem.Spec PyProof.Rows L2 Kx
theorem all_mk {l : PySem.W.OpenLaw} {w : World} {K : PySem.W.Frag} {h : Heap} {mg : Str → Option Value} {fa : Addr} (X : K.In h) (G : h.Ns mainGlobals mg) (hfa : mg "law" = some (.ref fa))
    {kTown : Addr}
    {kTill : Addr}
    {kLayout : Addr}
    {f1 : Addr} {od1 an1 : Option Addr} {sl1 : Array (Option Value)} {oc1 kV1 dc1 pm1 cd1 ct1 : Value}
    {f2 : Addr} {od2 an2 : Option Addr} {sl2 : Array (Option Value)} {oc2 kV2 dc2 pm2 cd2 ct2 : Value}
    {f3 : Addr} {od3 an3 : Option Addr} {sl3 : Array (Option Value)} {oc3 kV3 dc3 pm3 cd3 ct3 : Value}
    {f4 : Addr} {od4 an4 : Option Addr} {sl4 : Array (Option Value)} {oc4 kV4 dc4 pm4 cd4 ct4 : Value}
    {f5 : Addr} {od5 an5 : Option Addr} {sl5 : Array (Option Value)} {oc5 kV5 dc5 pm5 cd5 ct5 : Value}
    {f6 : Addr} {od6 an6 : Option Addr} {sl6 : Array (Option Value)} {oc6 kV6 dc6 pm6 cd6 ct6 : Value}
    {f7 : Addr} {od7 an7 : Option Addr} {sl7 : Array (Option Value)} {oc7 kV7 dc7 pm7 cd7 ct7 : Value}
    {f8 : Addr} {od8 an8 : Option Addr} {sl8 : Array (Option Value)} {oc8 kV8 dc8 pm8 cd8 ct8 : Value}
    {f9 : Addr} {od9 an9 : Option Addr} {sl9 : Array (Option Value)} {oc9 kV9 dc9 pm9 cd9 ct9 : Value}
    {f10 : Addr} {od10 an10 : Option Addr} {sl10 : Array (Option Value)} {oc10 kV10 dc10 pm10 cd10 ct10 : Value}
    {f11 : Addr} {od11 an11 : Option Addr} {sl11 : Array (Option Value)} {oc11 kV11 dc11 pm11 cd11 ct11 : Value}
    {f12 : Addr} {od12 an12 : Option Addr} {sl12 : Array (Option Value)} {oc12 kV12 dc12 pm12 cd12 ct12 : Value}
    {f13 : Addr} {od13 an13 : Option Addr} {sl13 : Array (Option Value)} {oc13 kV13 dc13 pm13 cd13 ct13 : Value}
    {f14 : Addr} {od14 an14 : Option Addr} {sl14 : Array (Option Value)} {oc14 kV14 dc14 pm14 cd14 ct14 : Value}
    {f15 : Addr} {od15 an15 : Option Addr} {sl15 : Array (Option Value)} {oc15 kV15 dc15 pm15 cd15 ct15 : Value}
    {f16 : Addr} {od16 an16 : Option Addr} {sl16 : Array (Option Value)} {oc16 kV16 dc16 pm16 cd16 ct16 : Value}
    {f17 : Addr} {od17 an17 : Option Addr} {sl17 : Array (Option Value)} {oc17 kV17 dc17 pm17 cd17 ct17 : Value}
    {f18 : Addr} {od18 an18 : Option Addr} {sl18 : Array (Option Value)} {oc18 kV18 dc18 pm18 cd18 ct18 : Value}
    {f19 : Addr} {od19 an19 : Option Addr} {sl19 : Array (Option Value)} {oc19 kV19 dc19 pm19 cd19 ct19 : Value}
    {f20 : Addr} {od20 an20 : Option Addr} {sl20 : Array (Option Value)} {oc20 kV20 dc20 pm20 cd20 ct20 : Value}
    {f21 : Addr} {od21 an21 : Option Addr} {sl21 : Array (Option Value)} {oc21 kV21 dc21 pm21 cd21 ct21 : Value}
    {f22 : Addr} {od22 an22 : Option Addr} {sl22 : Array (Option Value)} {oc22 kV22 dc22 pm22 cd22 ct22 : Value}
    {f23 : Addr} {od23 an23 : Option Addr} {sl23 : Array (Option Value)} {oc23 kV23 dc23 pm23 cd23 ct23 : Value}
    {f24 : Addr} {od24 an24 : Option Addr} {sl24 : Array (Option Value)} {oc24 kV24 dc24 pm24 cd24 ct24 : Value}
    {f25 : Addr} {od25 an25 : Option Addr} {sl25 : Array (Option Value)} {oc25 kV25 dc25 pm25 cd25 ct25 : Value}
    {f26 : Addr} {od26 an26 : Option Addr} {sl26 : Array (Option Value)} {oc26 kV26 dc26 pm26 cd26 ct26 : Value}
    {f27 : Addr} {od27 an27 : Option Addr} {sl27 : Array (Option Value)} {oc27 kV27 dc27 pm27 cd27 ct27 : Value}
    {f28 : Addr} {od28 an28 : Option Addr} {sl28 : Array (Option Value)} {oc28 kV28 dc28 pm28 cd28 ct28 : Value}
    {f29 : Addr} {od29 an29 : Option Addr} {sl29 : Array (Option Value)} {oc29 kV29 dc29 pm29 cd29 ct29 : Value}
    {f30 : Addr} {od30 an30 : Option Addr} {sl30 : Array (Option Value)} {oc30 kV30 dc30 pm30 cd30 ct30 : Value}
    {f31 : Addr} {od31 an31 : Option Addr} {sl31 : Array (Option Value)} {oc31 kV31 dc31 pm31 cd31 ct31 : Value}
    {f32 : Addr} {od32 an32 : Option Addr} {sl32 : Array (Option Value)} {oc32 kV32 dc32 pm32 cd32 ct32 : Value}
    {f33 : Addr} {od33 an33 : Option Addr} {sl33 : Array (Option Value)} {oc33 kV33 dc33 pm33 cd33 ct33 : Value}
    {f34 : Addr} {od34 an34 : Option Addr} {sl34 : Array (Option Value)} {oc34 kV34 dc34 pm34 cd34 ct34 : Value}
    {f35 : Addr} {od35 an35 : Option Addr} {sl35 : Array (Option Value)} {oc35 kV35 dc35 pm35 cd35 ct35 : Value}
    {f36 : Addr} {od36 an36 : Option Addr} {sl36 : Array (Option Value)} {oc36 kV36 dc36 pm36 cd36 ct36 : Value}
    {f37 : Addr} {od37 an37 : Option Addr} {sl37 : Array (Option Value)} {oc37 kV37 dc37 pm37 cd37 ct37 : Value}
    {f38 : Addr} {od38 an38 : Option Addr} {sl38 : Array (Option Value)} {oc38 kV38 dc38 pm38 cd38 ct38 : Value}
    {f39 : Addr} {od39 an39 : Option Addr} {sl39 : Array (Option Value)} {oc39 kV39 dc39 pm39 cd39 ct39 : Value}
    {f40 : Addr} {od40 an40 : Option Addr} {sl40 : Array (Option Value)} {oc40 kV40 dc40 pm40 cd40 ct40 : Value}
    {f41 : Addr} {od41 an41 : Option Addr} {sl41 : Array (Option Value)} {oc41 kV41 dc41 pm41 cd41 ct41 : Value}
    {f42 : Addr} {od42 an42 : Option Addr} {sl42 : Array (Option Value)} {oc42 kV42 dc42 pm42 cd42 ct42 : Value}
    {f43 : Addr} {od43 an43 : Option Addr} {sl43 : Array (Option Value)} {oc43 kV43 dc43 pm43 cd43 ct43 : Value}
    {f44 : Addr} {od44 an44 : Option Addr} {sl44 : Array (Option Value)} {oc44 kV44 dc44 pm44 cd44 ct44 : Value}
    {f45 : Addr} {od45 an45 : Option Addr} {sl45 : Array (Option Value)} {oc45 kV45 dc45 pm45 cd45 ct45 : Value}
    {f46 : Addr} {od46 an46 : Option Addr} {sl46 : Array (Option Value)} {oc46 kV46 dc46 pm46 cd46 ct46 : Value}
    {f47 : Addr} {od47 an47 : Option Addr} {sl47 : Array (Option Value)} {oc47 kV47 dc47 pm47 cd47 ct47 : Value}
    {f48 : Addr} {od48 an48 : Option Addr} {sl48 : Array (Option Value)} {oc48 kV48 dc48 pm48 cd48 ct48 : Value}
    {f49 : Addr} {od49 an49 : Option Addr} {sl49 : Array (Option Value)} {oc49 kV49 dc49 pm49 cd49 ct49 : Value}
    {f50 : Addr} {od50 an50 : Option Addr} {sl50 : Array (Option Value)} {oc50 kV50 dc50 pm50 cd50 ct50 : Value}
    {f51 : Addr} {od51 an51 : Option Addr} {sl51 : Array (Option Value)} {oc51 kV51 dc51 pm51 cd51 ct51 : Value}
    {f52 : Addr} {od52 an52 : Option Addr} {sl52 : Array (Option Value)} {oc52 kV52 dc52 pm52 cd52 ct52 : Value}
    {f53 : Addr} {od53 an53 : Option Addr} {sl53 : Array (Option Value)} {oc53 kV53 dc53 pm53 cd53 ct53 : Value}
    {f54 : Addr} {od54 an54 : Option Addr} {sl54 : Array (Option Value)} {oc54 kV54 dc54 pm54 cd54 ct54 : Value}
    {f55 : Addr} {od55 an55 : Option Addr} {sl55 : Array (Option Value)} {oc55 kV55 dc55 pm55 cd55 ct55 : Value}
    {f56 : Addr} {od56 an56 : Option Addr} {sl56 : Array (Option Value)} {oc56 kV56 dc56 pm56 cd56 ct56 : Value}
    {f57 : Addr} {od57 an57 : Option Addr} {sl57 : Array (Option Value)} {oc57 kV57 dc57 pm57 cd57 ct57 : Value}
    {f58 : Addr} {od58 an58 : Option Addr} {sl58 : Array (Option Value)} {oc58 kV58 dc58 pm58 cd58 ct58 : Value}
    {f59 : Addr} {od59 an59 : Option Addr} {sl59 : Array (Option Value)} {oc59 kV59 dc59 pm59 cd59 ct59 : Value}
    {tk_LONGEST_NAME : Tok}
    {tk_MOST_TILLS : Tok}
    {tk_MOST_TOPS : Tok}
    {tk_TOP_LIMIT : Tok}
    {tk_TOP_MONEY : Tok}
    {tk_TOP_REMEMBERED : Tok}
    {tk_UNITS0 tk_UNITS1 : Tok} {w_UNITS : Addr} {dd_UNITS : Option Addr} {n_UNITS : Nat} {sl_UNITS : Array (Option Value)}
    (p_Town : PySem.W.nsIn K mainGlobals "Town" = some (some (.ref kTown)))
    (pg_Town : PySem.W.plainGet K kTown Str.empty = true)
    (hd_Town : PySem.W.hasDictIn K kTown = true)
    (po_Town : PySem.W.plainOver K kTown = true)
    (sa_Town : PySem.W.findIn K (.ref kTown) "__setattr__" = some (some (.builtin "object.__setattr__")))
    (m_Town : PySem.W.makesIn K kTown = true)
    (q_Town : PySem.W.keepIn K (.ref kTown) = true)
    (n_Town__tills : PySem.W.findIn K (.ref kTown) "_tills" = some none)
    (n_Town__by_name : PySem.W.findIn K (.ref kTown) "_by_name" = some none)
    (n_Town_links : PySem.W.findIn K (.ref kTown) "links" = some none)
    (n_Town_money : PySem.W.findIn K (.ref kTown) "money" = some none)
    (n_Town_memory : PySem.W.findIn K (.ref kTown) "memory" = some none)
    (n_Town_tops : PySem.W.findIn K (.ref kTown) "tops" = some none)
    (n_Town_numbered : PySem.W.findIn K (.ref kTown) "numbered" = some none)
    (p_Till : PySem.W.nsIn K mainGlobals "Till" = some (some (.ref kTill)))
    (pg_Till : PySem.W.plainGet K kTill Str.empty = true)
    (hd_Till : PySem.W.hasDictIn K kTill = true)
    (po_Till : PySem.W.plainOver K kTill = true)
    (sa_Till : PySem.W.findIn K (.ref kTill) "__setattr__" = some (some (.builtin "object.__setattr__")))
    (m_Till : PySem.W.makesIn K kTill = true)
    (q_Till : PySem.W.keepIn K (.ref kTill) = true)
    (n_Till_name : PySem.W.findIn K (.ref kTill) "name" = some none)
    (n_Till_limit : PySem.W.findIn K (.ref kTill) "limit" = some none)
    (n_Till_heeds : PySem.W.findIn K (.ref kTill) "heeds" = some none)
    (ic_Till : PySem.W.findIn K (.ref kTill) "__class__" = some (some (.builtin "object.__class__")))
    (mr_Till : PySem.W.mroIn K kTill (.type "object") = some true)
    (ty_Till : PySem.W.typeIn K (.ref kTill) = some (.type "type"))
    (p_Layout : PySem.W.nsIn K mainGlobals "Layout" = some (some (.ref kLayout)))
    (pg_Layout : PySem.W.plainGet K kLayout Str.empty = true)
    (hd_Layout : PySem.W.hasDictIn K kLayout = true)
    (po_Layout : PySem.W.plainOver K kLayout = true)
    (sa_Layout : PySem.W.findIn K (.ref kLayout) "__setattr__" = some (some (.builtin "object.__setattr__")))
    (m_Layout : PySem.W.makesIn K kLayout = true)
    (q_Layout : PySem.W.keepIn K (.ref kLayout) = true)
    (n_Layout_indexes : PySem.W.findIn K (.ref kLayout) "indexes" = some none)
    (n_Layout_limits : PySem.W.findIn K (.ref kLayout) "limits" = some none)
    (n_Layout_heeding : PySem.W.findIn K (.ref kLayout) "heeding" = some none)
    (n_Layout_groups : PySem.W.findIn K (.ref kLayout) "groups" = some none)
    (n_Layout_kind : PySem.W.findIn K (.ref kLayout) "kind" = some none)
    (n_Layout_top_remembered : PySem.W.findIn K (.ref kLayout) "top_remembered" = some none)
    (n_Layout_numbered : PySem.W.findIn K (.ref kLayout) "numbered" = some none)
    (n_Layout_plain_events : PySem.W.findIn K (.ref kLayout) "plain_events" = some none)
    (a1 : PySem.W.nsIn K mainGlobals "_law_first" = some (some (.ref f1)))
    (l1 : K.lookup f1 = some ⟨oc1, od1, .func (PySem.W.fnOf "_law_first" "_law_first" (defArgs s__law_first) (defBody s__law_first) (defScope s__law_first) .none kV1 dc1 pm1 an1 cd1 ct1), sl1⟩)
    (c1 : PySem.W.codeIn K cd1 "_law_first" = true)
    (k1 : PySem.W.keepIn K (.ref f1) = true)
    (a2 : PySem.W.nsIn K mainGlobals "is_integer" = some (some (.ref f2)))
    (l2 : K.lookup f2 = some ⟨oc2, od2, .func (PySem.W.fnOf "is_integer" "is_integer" (defArgs s_is_integer) (defBody s_is_integer) (defScope s_is_integer) .none kV2 dc2 pm2 an2 cd2 ct2), sl2⟩)
    (c2 : PySem.W.codeIn K cd2 "is_integer" = true)
    (k2 : PySem.W.keepIn K (.ref f2) = true)
    (a3 : PySem.W.nsIn K mainGlobals "is_integer_to" = some (some (.ref f3)))
    (l3 : K.lookup f3 = some ⟨oc3, od3, .func (PySem.W.fnOf "is_integer_to" "is_integer_to" (defArgs s_is_integer_to) (defBody s_is_integer_to) (defScope s_is_integer_to) .none kV3 dc3 pm3 an3 cd3 ct3), sl3⟩)
    (c3 : PySem.W.codeIn K cd3 "is_integer_to" = true)
    (k3 : PySem.W.keepIn K (.ref f3) = true)
    (a4 : PySem.W.nsIn K mainGlobals "is_limit" = some (some (.ref f4)))
    (l4 : K.lookup f4 = some ⟨oc4, od4, .func (PySem.W.fnOf "is_limit" "is_limit" (defArgs s_is_limit) (defBody s_is_limit) (defScope s_is_limit) .none kV4 dc4 pm4 an4 cd4 ct4), sl4⟩)
    (c4 : PySem.W.codeIn K cd4 "is_limit" = true)
    (k4 : PySem.W.keepIn K (.ref f4) = true)
    (a5 : PySem.W.nsIn K mainGlobals "is_name" = some (some (.ref f5)))
    (l5 : K.lookup f5 = some ⟨oc5, od5, .func (PySem.W.fnOf "is_name" "is_name" (defArgs s_is_name) (defBody s_is_name) (defScope s_is_name) .none kV5 dc5 pm5 an5 cd5 ct5), sl5⟩)
    (c5 : PySem.W.codeIn K cd5 "is_name" = true)
    (k5 : PySem.W.keepIn K (.ref f5) = true)
    (a6 : PySem.W.nsIn K mainGlobals "is_truth" = some (some (.ref f6)))
    (l6 : K.lookup f6 = some ⟨oc6, od6, .func (PySem.W.fnOf "is_truth" "is_truth" (defArgs s_is_truth) (defBody s_is_truth) (defScope s_is_truth) .none kV6 dc6 pm6 an6 cd6 ct6), sl6⟩)
    (c6 : PySem.W.codeIn K cd6 "is_truth" = true)
    (k6 : PySem.W.keepIn K (.ref f6) = true)
    (a7 : PySem.W.findIn K (.ref kTill) "__init__" = some (some (.ref f7)))
    (l7 : K.lookup f7 = some ⟨oc7, od7, .func (PySem.W.fnOf "__init__" "Till.__init__" (defArgs s_Till_init) (defBody s_Till_init) (defScope s_Till_init) .none kV7 dc7 pm7 an7 cd7 ct7), sl7⟩)
    (c7 : PySem.W.codeIn K cd7 "Till.__init__" = true)
    (k7 : PySem.W.keepIn K (.ref f7) = true)
    (i7 : PySem.W.isFn K (.ref f7) = true)
    (a8 : PySem.W.nsIn K mainGlobals "ascending_links" = some (some (.ref f8)))
    (l8 : K.lookup f8 = some ⟨oc8, od8, .func (PySem.W.fnOf "ascending_links" "ascending_links" (defArgs s_ascending_links) (defBody s_ascending_links) (defScope s_ascending_links) .none kV8 dc8 pm8 an8 cd8 ct8), sl8⟩)
    (c8 : PySem.W.codeIn K cd8 "ascending_links" = true)
    (k8 : PySem.W.keepIn K (.ref f8) = true)
    (a9 : PySem.W.nsIn K mainGlobals "is_link" = some (some (.ref f9)))
    (l9 : K.lookup f9 = some ⟨oc9, od9, .func (PySem.W.fnOf "is_link" "is_link" (defArgs s_is_link) (defBody s_is_link) (defScope s_is_link) .none kV9 dc9 pm9 an9 cd9 ct9), sl9⟩)
    (c9 : PySem.W.codeIn K cd9 "is_link" = true)
    (k9 : PySem.W.keepIn K (.ref f9) = true)
    (a10 : PySem.W.nsIn K mainGlobals "is_list" = some (some (.ref f10)))
    (l10 : K.lookup f10 = some ⟨oc10, od10, .func (PySem.W.fnOf "is_list" "is_list" (defArgs s_is_list) (defBody s_is_list) (defScope s_is_list) .none kV10 dc10 pm10 an10 cd10 ct10), sl10⟩)
    (c10 : PySem.W.codeIn K cd10 "is_list" = true)
    (k10 : PySem.W.keepIn K (.ref f10) = true)
    (a11 : PySem.W.nsIn K mainGlobals "check_links" = some (some (.ref f11)))
    (l11 : K.lookup f11 = some ⟨oc11, od11, .func (PySem.W.fnOf "check_links" "check_links" (defArgs s_check_links) (defBody s_check_links) (defScope s_check_links) .none kV11 dc11 pm11 an11 cd11 ct11), sl11⟩)
    (c11 : PySem.W.codeIn K cd11 "check_links" = true)
    (k11 : PySem.W.keepIn K (.ref f11) = true)
    (a12 : PySem.W.nsIn K mainGlobals "is_word" = some (some (.ref f12)))
    (l12 : K.lookup f12 = some ⟨oc12, od12, .func (PySem.W.fnOf "is_word" "is_word" (defArgs s_is_word) (defBody s_is_word) (defScope s_is_word) .none kV12 dc12 pm12 an12 cd12 ct12), sl12⟩)
    (c12 : PySem.W.codeIn K cd12 "is_word" = true)
    (k12 : PySem.W.keepIn K (.ref f12) = true)
    (a13 : PySem.W.nsIn K mainGlobals "is_memory" = some (some (.ref f13)))
    (l13 : K.lookup f13 = some ⟨oc13, od13, .func (PySem.W.fnOf "is_memory" "is_memory" (defArgs s_is_memory) (defBody s_is_memory) (defScope s_is_memory) .none kV13 dc13 pm13 an13 cd13 ct13), sl13⟩)
    (c13 : PySem.W.codeIn K cd13 "is_memory" = true)
    (k13 : PySem.W.keepIn K (.ref f13) = true)
    (a14 : PySem.W.nsIn K mainGlobals "check_parts" = some (some (.ref f14)))
    (l14 : K.lookup f14 = some ⟨oc14, od14, .func (PySem.W.fnOf "check_parts" "check_parts" (defArgs s_check_parts) (defBody s_check_parts) (defScope s_check_parts) .none kV14 dc14 pm14 an14 cd14 ct14), sl14⟩)
    (c14 : PySem.W.codeIn K cd14 "check_parts" = true)
    (k14 : PySem.W.keepIn K (.ref f14) = true)
    (a15 : PySem.W.nsIn K mainGlobals "check_tills" = some (some (.ref f15)))
    (l15 : K.lookup f15 = some ⟨oc15, od15, .func (PySem.W.fnOf "check_tills" "check_tills" (defArgs s_check_tills) (defBody s_check_tills) (defScope s_check_tills) .none kV15 dc15 pm15 an15 cd15 ct15), sl15⟩)
    (c15 : PySem.W.codeIn K cd15 "check_tills" = true)
    (k15 : PySem.W.keepIn K (.ref f15) = true)
    (a16 : PySem.W.findIn K (.ref kTown) "__init__" = some (some (.ref f16)))
    (l16 : K.lookup f16 = some ⟨oc16, od16, .func (PySem.W.fnOf "__init__" "Town.__init__" (defArgs s_Town_init) (defBody s_Town_init) (defScope s_Town_init) .none kV16 dc16 pm16 an16 cd16 ct16), sl16⟩)
    (c16 : PySem.W.codeIn K cd16 "Town.__init__" = true)
    (k16 : PySem.W.keepIn K (.ref f16) = true)
    (i16 : PySem.W.isFn K (.ref f16) = true)
    (a17 : PySem.W.nsIn K mainGlobals "_law_made" = some (some (.ref f17)))
    (l17 : K.lookup f17 = some ⟨oc17, od17, .func (PySem.W.fnOf "_law_made" "_law_made" (defArgs s__law_made) (defBody s__law_made) (defScope s__law_made) .none kV17 dc17 pm17 an17 cd17 ct17), sl17⟩)
    (c17 : PySem.W.codeIn K cd17 "_law_made" = true)
    (k17 : PySem.W.keepIn K (.ref f17) = true)
    (a18 : PySem.W.nsIn K mainGlobals "_law_draw" = some (some (.ref f18)))
    (l18 : K.lookup f18 = some ⟨oc18, od18, .func (PySem.W.fnOf "_law_draw" "_law_draw" (defArgs s__law_draw) (defBody s__law_draw) (defScope s__law_draw) .none kV18 dc18 pm18 an18 cd18 ct18), sl18⟩)
    (c18 : PySem.W.codeIn K cd18 "_law_draw" = true)
    (k18 : PySem.W.keepIn K (.ref f18) = true)
    (a19 : PySem.W.nsIn K mainGlobals "_law_pick" = some (some (.ref f19)))
    (l19 : K.lookup f19 = some ⟨oc19, od19, .func (PySem.W.fnOf "_law_pick" "_law_pick" (defArgs s__law_pick) (defBody s__law_pick) (defScope s__law_pick) .none kV19 dc19 pm19 an19 cd19 ct19), sl19⟩)
    (c19 : PySem.W.codeIn K cd19 "_law_pick" = true)
    (k19 : PySem.W.keepIn K (.ref f19) = true)
    (a20 : PySem.W.nsIn K mainGlobals "_law_names" = some (some (.ref f20)))
    (l20 : K.lookup f20 = some ⟨oc20, od20, .func (PySem.W.fnOf "_law_names" "_law_names" (defArgs s__law_names) (defBody s__law_names) (defScope s__law_names) .none kV20 dc20 pm20 an20 cd20 ct20), sl20⟩)
    (c20 : PySem.W.codeIn K cd20 "_law_names" = true)
    (k20 : PySem.W.keepIn K (.ref f20) = true)
    (a21 : PySem.W.nsIn K mainGlobals "_law_plan" = some (some (.ref f21)))
    (l21 : K.lookup f21 = some ⟨oc21, od21, .func (PySem.W.fnOf "_law_plan" "_law_plan" (defArgs s__law_plan) (defBody s__law_plan) (defScope s__law_plan) .none kV21 dc21 pm21 an21 cd21 ct21), sl21⟩)
    (c21 : PySem.W.codeIn K cd21 "_law_plan" = true)
    (k21 : PySem.W.keepIn K (.ref f21) = true)
    (a22 : PySem.W.nsIn K mainGlobals "_law_pool" = some (some (.ref f22)))
    (l22 : K.lookup f22 = some ⟨oc22, od22, .func (PySem.W.fnOf "_law_pool" "_law_pool" (defArgs s__law_pool) (defBody s__law_pool) (defScope s__law_pool) .none kV22 dc22 pm22 an22 cd22 ct22), sl22⟩)
    (c22 : PySem.W.codeIn K cd22 "_law_pool" = true)
    (k22 : PySem.W.keepIn K (.ref f22) = true)
    (a23 : PySem.W.nsIn K mainGlobals "_law_group" = some (some (.ref f23)))
    (l23 : K.lookup f23 = some ⟨oc23, od23, .func (PySem.W.fnOf "_law_group" "_law_group" (defArgs s__law_group) (defBody s__law_group) (defScope s__law_group) .none kV23 dc23 pm23 an23 cd23 ct23), sl23⟩)
    (c23 : PySem.W.codeIn K cd23 "_law_group" = true)
    (k23 : PySem.W.keepIn K (.ref f23) = true)
    (a24 : PySem.W.nsIn K mainGlobals "_law_low" = some (some (.ref f24)))
    (l24 : K.lookup f24 = some ⟨oc24, od24, .func (PySem.W.fnOf "_law_low" "_law_low" (defArgs s__law_low) (defBody s__law_low) (defScope s__law_low) .none kV24 dc24 pm24 an24 cd24 ct24), sl24⟩)
    (c24 : PySem.W.codeIn K cd24 "_law_low" = true)
    (k24 : PySem.W.keepIn K (.ref f24) = true)
    (a25 : PySem.W.nsIn K mainGlobals "_law_put" = some (some (.ref f25)))
    (l25 : K.lookup f25 = some ⟨oc25, od25, .func (PySem.W.fnOf "_law_put" "_law_put" (defArgs s__law_put) (defBody s__law_put) (defScope s__law_put) .none kV25 dc25 pm25 an25 cd25 ct25), sl25⟩)
    (c25 : PySem.W.codeIn K cd25 "_law_put" = true)
    (k25 : PySem.W.keepIn K (.ref f25) = true)
    (a26 : PySem.W.nsIn K mainGlobals "_law_stopped" = some (some (.ref f26)))
    (l26 : K.lookup f26 = some ⟨oc26, od26, .func (PySem.W.fnOf "_law_stopped" "_law_stopped" (defArgs s__law_stopped) (defBody s__law_stopped) (defScope s__law_stopped) .none kV26 dc26 pm26 an26 cd26 ct26), sl26⟩)
    (c26 : PySem.W.codeIn K cd26 "_law_stopped" = true)
    (k26 : PySem.W.keepIn K (.ref f26) = true)
    (a27 : PySem.W.nsIn K mainGlobals "_law_lined" = some (some (.ref f27)))
    (l27 : K.lookup f27 = some ⟨oc27, od27, .func (PySem.W.fnOf "_law_lined" "_law_lined" (defArgs s__law_lined) (defBody s__law_lined) (defScope s__law_lined) .none kV27 dc27 pm27 an27 cd27 ct27), sl27⟩)
    (c27 : PySem.W.codeIn K cd27 "_law_lined" = true)
    (k27 : PySem.W.keepIn K (.ref f27) = true)
    (a28 : PySem.W.nsIn K mainGlobals "_law_word" = some (some (.ref f28)))
    (l28 : K.lookup f28 = some ⟨oc28, od28, .func (PySem.W.fnOf "_law_word" "_law_word" (defArgs s__law_word) (defBody s__law_word) (defScope s__law_word) .none kV28 dc28 pm28 an28 cd28 ct28), sl28⟩)
    (c28 : PySem.W.codeIn K cd28 "_law_word" = true)
    (k28 : PySem.W.keepIn K (.ref f28) = true)
    (a29 : PySem.W.nsIn K mainGlobals "_law_paid" = some (some (.ref f29)))
    (l29 : K.lookup f29 = some ⟨oc29, od29, .func (PySem.W.fnOf "_law_paid" "_law_paid" (defArgs s__law_paid) (defBody s__law_paid) (defScope s__law_paid) .none kV29 dc29 pm29 an29 cd29 ct29), sl29⟩)
    (c29 : PySem.W.codeIn K cd29 "_law_paid" = true)
    (k29 : PySem.W.keepIn K (.ref f29) = true)
    (a30 : PySem.W.nsIn K mainGlobals "_law_after" = some (some (.ref f30)))
    (l30 : K.lookup f30 = some ⟨oc30, od30, .func (PySem.W.fnOf "_law_after" "_law_after" (defArgs s__law_after) (defBody s__law_after) (defScope s__law_after) .none kV30 dc30 pm30 an30 cd30 ct30), sl30⟩)
    (c30 : PySem.W.codeIn K cd30 "_law_after" = true)
    (k30 : PySem.W.keepIn K (.ref f30) = true)
    (a31 : PySem.W.nsIn K mainGlobals "_law_can" = some (some (.ref f31)))
    (l31 : K.lookup f31 = some ⟨oc31, od31, .func (PySem.W.fnOf "_law_can" "_law_can" (defArgs s__law_can) (defBody s__law_can) (defScope s__law_can) .none kV31 dc31 pm31 an31 cd31 ct31), sl31⟩)
    (c31 : PySem.W.codeIn K cd31 "_law_can" = true)
    (k31 : PySem.W.keepIn K (.ref f31) = true)
    (a32 : PySem.W.nsIn K mainGlobals "_law_events" = some (some (.ref f32)))
    (l32 : K.lookup f32 = some ⟨oc32, od32, .func (PySem.W.fnOf "_law_events" "_law_events" (defArgs s__law_events) (defBody s__law_events) (defScope s__law_events) .none kV32 dc32 pm32 an32 cd32 ct32), sl32⟩)
    (c32 : PySem.W.codeIn K cd32 "_law_events" = true)
    (k32 : PySem.W.keepIn K (.ref f32) = true)
    (a33 : PySem.W.nsIn K mainGlobals "_law_choices" = some (some (.ref f33)))
    (l33 : K.lookup f33 = some ⟨oc33, od33, .func (PySem.W.fnOf "_law_choices" "_law_choices" (defArgs s__law_choices) (defBody s__law_choices) (defScope s__law_choices) .none kV33 dc33 pm33 an33 cd33 ct33), sl33⟩)
    (c33 : PySem.W.codeIn K cd33 "_law_choices" = true)
    (k33 : PySem.W.keepIn K (.ref f33) = true)
    (a34 : PySem.W.nsIn K mainGlobals "_law_steps" = some (some (.ref f34)))
    (l34 : K.lookup f34 = some ⟨oc34, od34, .func (PySem.W.fnOf "_law_steps" "_law_steps" (defArgs s__law_steps) (defBody s__law_steps) (defScope s__law_steps) .none kV34 dc34 pm34 an34 cd34 ct34), sl34⟩)
    (c34 : PySem.W.codeIn K cd34 "_law_steps" = true)
    (k34 : PySem.W.keepIn K (.ref f34) = true)
    (a35 : PySem.W.findIn K (.ref kTown) "__getitem__" = some (some (.ref f35)))
    (l35 : K.lookup f35 = some ⟨oc35, od35, .func (PySem.W.fnOf "__getitem__" "Town.__getitem__" (defArgs s_Town_getitem) (defBody s_Town_getitem) (defScope s_Town_getitem) .none kV35 dc35 pm35 an35 cd35 ct35), sl35⟩)
    (c35 : PySem.W.codeIn K cd35 "Town.__getitem__" = true)
    (k35 : PySem.W.keepIn K (.ref f35) = true)
    (i35 : PySem.W.isFn K (.ref f35) = true)
    (a36 : PySem.W.findIn K (.ref kTown) "__contains__" = some (some (.ref f36)))
    (l36 : K.lookup f36 = some ⟨oc36, od36, .func (PySem.W.fnOf "__contains__" "Town.__contains__" (defArgs s_Town_contains) (defBody s_Town_contains) (defScope s_Town_contains) .none kV36 dc36 pm36 an36 cd36 ct36), sl36⟩)
    (c36 : PySem.W.codeIn K cd36 "Town.__contains__" = true)
    (k36 : PySem.W.keepIn K (.ref f36) = true)
    (i36 : PySem.W.isFn K (.ref f36) = true)
    (a37 : PySem.W.findIn K (.ref kTown) "names" = some (some (.ref f37)))
    (l37 : K.lookup f37 = some ⟨oc37, od37, .func (PySem.W.fnOf "names" "Town.names" (defArgs s_Town_names) (defBody s_Town_names) (defScope s_Town_names) .none kV37 dc37 pm37 an37 cd37 ct37), sl37⟩)
    (c37 : PySem.W.codeIn K cd37 "Town.names" = true)
    (k37 : PySem.W.keepIn K (.ref f37) = true)
    (i37 : PySem.W.isFn K (.ref f37) = true)
    (a38 : PySem.W.nsIn K mainGlobals "joined_names" = some (some (.ref f38)))
    (l38 : K.lookup f38 = some ⟨oc38, od38, .func (PySem.W.fnOf "joined_names" "joined_names" (defArgs s_joined_names) (defBody s_joined_names) (defScope s_joined_names) .none kV38 dc38 pm38 an38 cd38 ct38), sl38⟩)
    (c38 : PySem.W.codeIn K cd38 "joined_names" = true)
    (k38 : PySem.W.keepIn K (.ref f38) = true)
    (a39 : PySem.W.findIn K (.ref kTown) "group" = some (some (.ref f39)))
    (l39 : K.lookup f39 = some ⟨oc39, od39, .func (PySem.W.fnOf "group" "Town.group" (defArgs s_Town_group) (defBody s_Town_group) (defScope s_Town_group) .none kV39 dc39 pm39 an39 cd39 ct39), sl39⟩)
    (c39 : PySem.W.codeIn K cd39 "Town.group" = true)
    (k39 : PySem.W.keepIn K (.ref f39) = true)
    (i39 : PySem.W.isFn K (.ref f39) = true)
    (a40 : PySem.W.nsIn K mainGlobals "events_of" = some (some (.ref f40)))
    (l40 : K.lookup f40 = some ⟨oc40, od40, .func (PySem.W.fnOf "events_of" "events_of" (defArgs s_events_of) (defBody s_events_of) (defScope s_events_of) .none kV40 dc40 pm40 an40 cd40 ct40), sl40⟩)
    (c40 : PySem.W.codeIn K cd40 "events_of" = true)
    (k40 : PySem.W.keepIn K (.ref f40) = true)
    (a41 : PySem.W.nsIn K mainGlobals "most_remembered" = some (some (.ref f41)))
    (l41 : K.lookup f41 = some ⟨oc41, od41, .func (PySem.W.fnOf "most_remembered" "most_remembered" (defArgs s_most_remembered) (defBody s_most_remembered) (defScope s_most_remembered) .none kV41 dc41 pm41 an41 cd41 ct41), sl41⟩)
    (c41 : PySem.W.codeIn K cd41 "most_remembered" = true)
    (k41 : PySem.W.keepIn K (.ref f41) = true)
    (a42 : PySem.W.findIn K (.ref kLayout) "__init__" = some (some (.ref f42)))
    (l42 : K.lookup f42 = some ⟨oc42, od42, .func (PySem.W.fnOf "__init__" "Layout.__init__" (defArgs s_Layout_init) (defBody s_Layout_init) (defScope s_Layout_init) .none kV42 dc42 pm42 an42 cd42 ct42), sl42⟩)
    (c42 : PySem.W.codeIn K cd42 "Layout.__init__" = true)
    (k42 : PySem.W.keepIn K (.ref f42) = true)
    (i42 : PySem.W.isFn K (.ref f42) = true)
    (a43 : PySem.W.nsIn K mainGlobals "can_follow" = some (some (.ref f43)))
    (l43 : K.lookup f43 = some ⟨oc43, od43, .func (PySem.W.fnOf "can_follow" "can_follow" (defArgs s_can_follow) (defBody s_can_follow) (defScope s_can_follow) .none kV43 dc43 pm43 an43 cd43 ct43), sl43⟩)
    (c43 : PySem.W.codeIn K cd43 "can_follow" = true)
    (k43 : PySem.W.keepIn K (.ref f43) = true)
    (a44 : PySem.W.nsIn K mainGlobals "is_stopped" = some (some (.ref f44)))
    (l44 : K.lookup f44 = some ⟨oc44, od44, .func (PySem.W.fnOf "is_stopped" "is_stopped" (defArgs s_is_stopped) (defBody s_is_stopped) (defScope s_is_stopped) .none kV44 dc44 pm44 an44 cd44 ct44), sl44⟩)
    (c44 : PySem.W.codeIn K cd44 "is_stopped" = true)
    (k44 : PySem.W.keepIn K (.ref f44) = true)
    (a45 : PySem.W.nsIn K mainGlobals "with_group" = some (some (.ref f45)))
    (l45 : K.lookup f45 = some ⟨oc45, od45, .func (PySem.W.fnOf "with_group" "with_group" (defArgs s_with_group) (defBody s_with_group) (defScope s_with_group) .none kV45 dc45 pm45 an45 cd45 ct45), sl45⟩)
    (c45 : PySem.W.codeIn K cd45 "with_group" = true)
    (k45 : PySem.W.keepIn K (.ref f45) = true)
    (a46 : PySem.W.nsIn K mainGlobals "with_item" = some (some (.ref f46)))
    (l46 : K.lookup f46 = some ⟨oc46, od46, .func (PySem.W.fnOf "with_item" "with_item" (defArgs s_with_item) (defBody s_with_item) (defScope s_with_item) .none kV46 dc46 pm46 an46 cd46 ct46), sl46⟩)
    (c46 : PySem.W.codeIn K cd46 "with_item" = true)
    (k46 : PySem.W.keepIn K (.ref f46) = true)
    (a47 : PySem.W.nsIn K mainGlobals "behind_cut" = some (some (.ref f47)))
    (l47 : K.lookup f47 = some ⟨oc47, od47, .func (PySem.W.fnOf "behind_cut" "behind_cut" (defArgs s_behind_cut) (defBody s_behind_cut) (defScope s_behind_cut) .none kV47 dc47 pm47 an47 cd47 ct47), sl47⟩)
    (c47 : PySem.W.codeIn K cd47 "behind_cut" = true)
    (k47 : PySem.W.keepIn K (.ref f47) = true)
    (a48 : PySem.W.nsIn K mainGlobals "cut_to_tops" = some (some (.ref f48)))
    (l48 : K.lookup f48 = some ⟨oc48, od48, .func (PySem.W.fnOf "cut_to_tops" "cut_to_tops" (defArgs s_cut_to_tops) (defBody s_cut_to_tops) (defScope s_cut_to_tops) .none kV48 dc48 pm48 an48 cd48 ct48), sl48⟩)
    (c48 : PySem.W.codeIn K cd48 "cut_to_tops" = true)
    (k48 : PySem.W.keepIn K (.ref f48) = true)
    (a49 : PySem.W.nsIn K mainGlobals "behind_line" = some (some (.ref f49)))
    (l49 : K.lookup f49 = some ⟨oc49, od49, .func (PySem.W.fnOf "behind_line" "behind_line" (defArgs s_behind_line) (defBody s_behind_line) (defScope s_behind_line) .none kV49 dc49 pm49 an49 cd49 ct49), sl49⟩)
    (c49 : PySem.W.codeIn K cd49 "behind_line" = true)
    (k49 : PySem.W.keepIn K (.ref f49) = true)
    (a50 : PySem.W.nsIn K mainGlobals "behind_loss" = some (some (.ref f50)))
    (l50 : K.lookup f50 = some ⟨oc50, od50, .func (PySem.W.fnOf "behind_loss" "behind_loss" (defArgs s_behind_loss) (defBody s_behind_loss) (defScope s_behind_loss) .none kV50 dc50 pm50 an50 cd50 ct50), sl50⟩)
    (c50 : PySem.W.codeIn K cd50 "behind_loss" = true)
    (k50 : PySem.W.keepIn K (.ref f50) = true)
    (a51 : PySem.W.nsIn K mainGlobals "to_remember" = some (some (.ref f51)))
    (l51 : K.lookup f51 = some ⟨oc51, od51, .func (PySem.W.fnOf "to_remember" "to_remember" (defArgs s_to_remember) (defBody s_to_remember) (defScope s_to_remember) .none kV51 dc51 pm51 an51 cd51 ct51), sl51⟩)
    (c51 : PySem.W.codeIn K cd51 "to_remember" = true)
    (k51 : PySem.W.keepIn K (.ref f51) = true)
    (a52 : PySem.W.nsIn K mainGlobals "takes_for_stopped" = some (some (.ref f52)))
    (l52 : K.lookup f52 = some ⟨oc52, od52, .func (PySem.W.fnOf "takes_for_stopped" "takes_for_stopped" (defArgs s_takes_for_stopped) (defBody s_takes_for_stopped) (defScope s_takes_for_stopped) .none kV52 dc52 pm52 an52 cd52 ct52), sl52⟩)
    (c52 : PySem.W.codeIn K cd52 "takes_for_stopped" = true)
    (k52 : PySem.W.keepIn K (.ref f52) = true)
    (a53 : PySem.W.nsIn K mainGlobals "word_of_payment" = some (some (.ref f53)))
    (l53 : K.lookup f53 = some ⟨oc53, od53, .func (PySem.W.fnOf "word_of_payment" "word_of_payment" (defArgs s_word_of_payment) (defBody s_word_of_payment) (defScope s_word_of_payment) .none kV53 dc53 pm53 an53 cd53 ct53), sl53⟩)
    (c53 : PySem.W.codeIn K cd53 "word_of_payment" = true)
    (k53 : PySem.W.keepIn K (.ref f53) = true)
    (a54 : PySem.W.nsIn K mainGlobals "behind_payment" = some (some (.ref f54)))
    (l54 : K.lookup f54 = some ⟨oc54, od54, .func (PySem.W.fnOf "behind_payment" "behind_payment" (defArgs s_behind_payment) (defBody s_behind_payment) (defScope s_behind_payment) .none kV54 dc54 pm54 an54 cd54 ct54), sl54⟩)
    (c54 : PySem.W.codeIn K cd54 "behind_payment" = true)
    (k54 : PySem.W.keepIn K (.ref f54) = true)
    (a55 : PySem.W.nsIn K mainGlobals "behind_top" = some (some (.ref f55)))
    (l55 : K.lookup f55 = some ⟨oc55, od55, .func (PySem.W.fnOf "behind_top" "behind_top" (defArgs s_behind_top) (defBody s_behind_top) (defScope s_behind_top) .none kV55 dc55 pm55 an55 cd55 ct55), sl55⟩)
    (c55 : PySem.W.codeIn K cd55 "behind_top" = true)
    (k55 : PySem.W.keepIn K (.ref f55) = true)
    (a56 : PySem.W.nsIn K mainGlobals "moved" = some (some (.ref f56)))
    (l56 : K.lookup f56 = some ⟨oc56, od56, .func (PySem.W.fnOf "moved" "moved" (defArgs s_moved) (defBody s_moved) (defScope s_moved) .none kV56 dc56 pm56 an56 cd56 ct56), sl56⟩)
    (c56 : PySem.W.codeIn K cd56 "moved" = true)
    (k56 : PySem.W.keepIn K (.ref f56) = true)
    (a57 : PySem.W.nsIn K mainGlobals "steps_from" = some (some (.ref f57)))
    (l57 : K.lookup f57 = some ⟨oc57, od57, .func (PySem.W.fnOf "steps_from" "steps_from" (defArgs s_steps_from) (defBody s_steps_from) (defScope s_steps_from) .none kV57 dc57 pm57 an57 cd57 ct57), sl57⟩)
    (c57 : PySem.W.codeIn K cd57 "steps_from" = true)
    (k57 : PySem.W.keepIn K (.ref f57) = true)
    (a58 : PySem.W.nsIn K mainGlobals "steps" = some (some (.ref f58)))
    (l58 : K.lookup f58 = some ⟨oc58, od58, .func (PySem.W.fnOf "steps" "steps" (defArgs s_steps) (defBody s_steps) (defScope s_steps) .none kV58 dc58 pm58 an58 cd58 ct58), sl58⟩)
    (c58 : PySem.W.codeIn K cd58 "steps" = true)
    (k58 : PySem.W.keepIn K (.ref f58) = true)
    (a59 : PySem.W.nsIn K mainGlobals "law" = some (some (.ref f59)))
    (l59 : K.lookup f59 = some ⟨oc59, od59, .func (PySem.W.fnOf "law" "law" (defArgs s_law) (defBody s_law) (defScope s_law) .none kV59 dc59 pm59 an59 cd59 ct59), sl59⟩)
    (c59 : PySem.W.codeIn K cd59 "law" = true)
    (k59 : PySem.W.keepIn K (.ref f59) = true)
    (sp_cls : PySem.W.specialIn K (.builtin "object.__class__") "__get__" = some (some (.builtin "getset_descriptor.__get__")))
    (tk_cls : PySem.W.takesIn K (.builtin "object.__class__") = some true)
    (z_abs : PySem.W.nsIn K mainGlobals "abs" = some none)
    (z_all : PySem.W.nsIn K mainGlobals "all" = some none)
    (z_any : PySem.W.nsIn K mainGlobals "any" = some none)
    (z_bool : PySem.W.nsIn K mainGlobals "bool" = some none)
    (z_enumerate : PySem.W.nsIn K mainGlobals "enumerate" = some none)
    (z_int : PySem.W.nsIn K mainGlobals "int" = some none)
    (z_isinstance : PySem.W.nsIn K mainGlobals "isinstance" = some none)
    (z_len : PySem.W.nsIn K mainGlobals "len" = some none)
    (z_list : PySem.W.nsIn K mainGlobals "list" = some none)
    (z_max : PySem.W.nsIn K mainGlobals "max" = some none)
    (z_min : PySem.W.nsIn K mainGlobals "min" = some none)
    (z_range : PySem.W.nsIn K mainGlobals "range" = some none)
    (z_sorted : PySem.W.nsIn K mainGlobals "sorted" = some none)
    (z_str : PySem.W.nsIn K mainGlobals "str" = some none)
    (z_sum : PySem.W.nsIn K mainGlobals "sum" = some none)
    (z_tuple : PySem.W.nsIn K mainGlobals "tuple" = some none)
    (c_LONGEST_NAME : PySem.W.nsIn K mainGlobals "LONGEST_NAME" = some (some (.int 8 tk_LONGEST_NAME)))
    (c_MOST_TILLS : PySem.W.nsIn K mainGlobals "MOST_TILLS" = some (some (.int 4 tk_MOST_TILLS)))
    (c_MOST_TOPS : PySem.W.nsIn K mainGlobals "MOST_TOPS" = some (some (.int 5 tk_MOST_TOPS)))
    (c_TOP_LIMIT : PySem.W.nsIn K mainGlobals "TOP_LIMIT" = some (some (.int 9 tk_TOP_LIMIT)))
    (c_TOP_MONEY : PySem.W.nsIn K mainGlobals "TOP_MONEY" = some (some (.int 9 tk_TOP_MONEY)))
    (c_TOP_REMEMBERED : PySem.W.nsIn K mainGlobals "TOP_REMEMBERED" = some (some (.int 9 tk_TOP_REMEMBERED)))
    (c_UNITS : PySem.W.nsIn K mainGlobals "UNITS" = some (some (.ref w_UNITS)))
    (u_UNITS : K.lookup w_UNITS = some ⟨.type "tuple", dd_UNITS, .seq #[.int 1 tk_UNITS0, .int 2 tk_UNITS1] n_UNITS, sl_UNITS⟩)
    : ∃ fd : FuncData, (∀ (s : Shared) (v : Value), BindsTo s fd ⟨[v], []⟩ [("_law_script", v)]) ∧ ∀ base : Heap, K.In base → base.Ns mainGlobals mg → FnOk l.prog w K mg base CX0 8 fa fd ["_law_script"] (Dm.spLaw K) := by
  have e := hfa.symm.trans (PySem.W.mg_of X G a59)
  cases e
  have F1 := fun_mk (st := s__law_first) l1 c1 k1
  have B1 := F1.binds (ps := ["_law_t"]) fun _ _ _ _ _ _ us hl => match us, hl with | [_], _ => rfl
  have F2 := fun_mk (st := s_is_integer) l2 c2 k2
  have B2 := F2.binds (ps := ["value"]) fun _ _ _ _ _ _ us hl => match us, hl with | [_], _ => rfl
  have F3 := fun_mk (st := s_is_integer_to) l3 c3 k3
  have B3 := F3.binds (ps := ["value", "top"]) fun _ _ _ _ _ _ us hl => match us, hl with | [_, _], _ => rfl
  have F4 := fun_mk (st := s_is_limit) l4 c4 k4
  have B4 := F4.binds (ps := ["value"]) fun _ _ _ _ _ _ us hl => match us, hl with | [_], _ => rfl
  have F5 := fun_mk (st := s_is_name) l5 c5 k5
  have B5 := F5.binds (ps := ["value"]) fun _ _ _ _ _ _ us hl => match us, hl with | [_], _ => rfl
  have F6 := fun_mk (st := s_is_truth) l6 c6 k6
  have B6 := F6.binds (ps := ["value"]) fun _ _ _ _ _ _ us hl => match us, hl with | [_], _ => rfl
  have F7 := fun_mk (st := s_Till_init) l7 c7 k7
  have F8 := fun_mk (st := s_ascending_links) l8 c8 k8
  have B8 := F8.binds (ps := ["names", "links"]) fun _ _ _ _ _ _ us hl => match us, hl with | [_, _], _ => rfl
  have F9 := fun_mk (st := s_is_link) l9 c9 k9
  have B9 := F9.binds (ps := ["names", "value"]) fun _ _ _ _ _ _ us hl => match us, hl with | [_, _], _ => rfl
  have F10 := fun_mk (st := s_is_list) l10 c10 k10
  have B10 := F10.binds (ps := ["value"]) fun _ _ _ _ _ _ us hl => match us, hl with | [_], _ => rfl
  have F11 := fun_mk (st := s_check_links) l11 c11 k11
  have B11 := F11.binds (ps := ["names", "links"]) fun _ _ _ _ _ _ us hl => match us, hl with | [_, _], _ => rfl
  have F12 := fun_mk (st := s_is_word) l12 c12 k12
  have B12 := F12.binds (ps := ["value", "word"]) fun _ _ _ _ _ _ us hl => match us, hl with | [_, _], _ => rfl
  have F13 := fun_mk (st := s_is_memory) l13 c13 k13
  have B13 := F13.binds (ps := ["value"]) fun _ _ _ _ _ _ us hl => match us, hl with | [_], _ => rfl
  have F14 := fun_mk (st := s_check_parts) l14 c14 k14
  have B14 := F14.binds (ps := ["money", "memory", "tops", "numbered"]) fun _ _ _ _ _ _ us hl => match us, hl with | [_, _, _, _], _ => rfl
  have F15 := fun_mk (st := s_check_tills) l15 c15 k15
  have B15 := F15.binds (ps := ["tills"]) fun _ _ _ _ _ _ us hl => match us, hl with | [_], _ => rfl
  have F16 := fun_mk (st := s_Town_init) l16 c16 k16
  have F17 := fun_mk (st := s__law_made) l17 c17 k17
  have B17 := F17.binds (ps := ["_law_t"]) fun _ _ _ _ _ _ us hl => match us, hl with | [_], _ => rfl
  have F18 := fun_mk (st := s__law_draw) l18 c18 k18
  have B18 := F18.binds (ps := ["_law_pool_here", "_law_many"]) fun _ _ _ _ _ _ us hl => match us, hl with | [_, _], _ => rfl
  have F19 := fun_mk (st := s__law_pick) l19 c19 k19
  have B19 := F19.binds (ps := ["_law_pool_here", "_law_row"]) fun _ _ _ _ _ _ us hl => match us, hl with | [_, _], _ => rfl
  have F20 := fun_mk (st := s__law_names) l20 c20 k20
  have B20 := F20.binds (ps := ["_law_pool_here", "_law_count"]) fun _ _ _ _ _ _ us hl => match us, hl with | [_, _], _ => rfl
  have F21 := fun_mk (st := s__law_plan) l21 c21 k21
  have B21 := F21.binds (ps := ["_law_pool_here", "_law_many", "_law_most"]) fun _ _ _ _ _ _ us hl => match us, hl with | [_, _, _], _ => rfl
  have F22 := fun_mk (st := s__law_pool) l22 c22 k22
  have B22 := F22.binds (ps := ["_law_script", "_law_k"]) fun _ _ _ _ _ _ us hl => match us, hl with | [_, _], _ => rfl
  have F23 := fun_mk (st := s__law_group) l23 c23 k23
  have B23 := F23.binds (ps := ["_law_t", "_law_at"]) fun _ _ _ _ _ _ us hl => match us, hl with | [_, _], _ => rfl
  have F24 := fun_mk (st := s__law_low) l24 c24 k24
  have B24 := F24.binds (ps := ["_law_left", "_law_more"]) fun _ _ _ _ _ _ us hl => match us, hl with | [_, _], _ => rfl
  have F25 := fun_mk (st := s__law_put) l25 c25 k25
  have B25 := F25.binds (ps := ["_law_row", "_law_at", "_law_value"]) fun _ _ _ _ _ _ us hl => match us, hl with | [_, _, _], _ => rfl
  have F26 := fun_mk (st := s__law_stopped) l26 c26 k26
  have B26 := F26.binds (ps := ["_law_s"]) fun _ _ _ _ _ _ us hl => match us, hl with | [_], _ => rfl
  have F27 := fun_mk (st := s__law_lined) l27 c27 k27
  have B27 := F27.binds (ps := ["_law_t", "_law_s", "_law_at", "_law_has_line"]) fun _ _ _ _ _ _ us hl => match us, hl with | [_, _, _, _], _ => rfl
  have F28 := fun_mk (st := s__law_word) l28 c28 k28
  have B28 := F28.binds (ps := ["_law_t", "_law_s", "_law_at", "_law_units"]) fun _ _ _ _ _ _ us hl => match us, hl with | [_, _, _, _], _ => rfl
  have F29 := fun_mk (st := s__law_paid) l29 c29 k29
  have B29 := F29.binds (ps := ["_law_t", "_law_s", "_law_at", "_law_units"]) fun _ _ _ _ _ _ us hl => match us, hl with | [_, _, _, _], _ => rfl
  have F30 := fun_mk (st := s__law_after) l30 c30 k30
  have B30 := F30.binds (ps := ["_law_t", "_law_s", "_law_event"]) fun _ _ _ _ _ _ us hl => match us, hl with | [_, _, _], _ => rfl
  have F31 := fun_mk (st := s__law_can) l31 c31 k31
  have B31 := F31.binds (ps := ["_law_t", "_law_s", "_law_event"]) fun _ _ _ _ _ _ us hl => match us, hl with | [_, _, _], _ => rfl
  have F32 := fun_mk (st := s__law_events) l32 c32 k32
  have B32 := F32.binds (ps := ["_law_t"]) fun _ _ _ _ _ _ us hl => match us, hl with | [_], _ => rfl
  have F33 := fun_mk (st := s__law_choices) l33 c33 k33
  have B33 := F33.binds (ps := ["_law_t", "_law_s"]) fun _ _ _ _ _ _ us hl => match us, hl with | [_, _], _ => rfl
  have F34 := fun_mk (st := s__law_steps) l34 c34 k34
  have B34 := F34.binds (ps := ["_law_t", "_law_s"]) fun _ _ _ _ _ _ us hl => match us, hl with | [_, _], _ => rfl
  have F35 := fun_mk (st := s_Town_getitem) l35 c35 k35
  have B35 := F35.binds (ps := ["self", "at"]) fun _ _ _ _ _ _ us hl => match us, hl with | [_, _], _ => rfl
  have F36 := fun_mk (st := s_Town_contains) l36 c36 k36
  have B36 := F36.binds (ps := ["self", "x"]) fun _ _ _ _ _ _ us hl => match us, hl with | [_, _], _ => rfl
  have F37 := fun_mk (st := s_Town_names) l37 c37 k37
  have B37 := F37.binds (ps := ["self"]) fun _ _ _ _ _ _ us hl => match us, hl with | [_], _ => rfl
  have F38 := fun_mk (st := s_joined_names) l38 c38 k38
  have B38 := F38.binds (ps := ["names", "links", "name"]) fun _ _ _ _ _ _ us hl => match us, hl with | [_, _, _], _ => rfl
  have F39 := fun_mk (st := s_Town_group) l39 c39 k39
  have B39 := F39.binds (ps := ["self", "name"]) fun _ _ _ _ _ _ us hl => match us, hl with | [_, _], _ => rfl
  have F40 := fun_mk (st := s_events_of) l40 c40 k40
  have B40 := F40.binds (ps := ["town"]) fun _ _ _ _ _ _ us hl => match us, hl with | [_], _ => rfl
  have F41 := fun_mk (st := s_most_remembered) l41 c41 k41
  have B41 := F41.binds (ps := ["memory"]) fun _ _ _ _ _ _ us hl => match us, hl with | [_], _ => rfl
  have F42 := fun_mk (st := s_Layout_init) l42 c42 k42
  have B42 := F42.binds (ps := ["self", "town"]) fun _ _ _ _ _ _ us hl => match us, hl with | [_, _], _ => rfl
  have F43 := fun_mk (st := s_can_follow) l43 c43 k43
  have B43 := F43.binds (ps := ["layout", "state", "event"]) fun _ _ _ _ _ _ us hl => match us, hl with | [_, _, _], _ => rfl
  have F44 := fun_mk (st := s_is_stopped) l44 c44 k44
  have B44 := F44.binds (ps := ["left", "lost"]) fun _ _ _ _ _ _ us hl => match us, hl with | [_, _], _ => rfl
  have F45 := fun_mk (st := s_with_group) l45 c45 k45
  have B45 := F45.binds (ps := ["row", "group", "value"]) fun _ _ _ _ _ _ us hl => match us, hl with | [_, _, _], _ => rfl
  have F46 := fun_mk (st := s_with_item) l46 c46 k46
  have B46 := F46.binds (ps := ["row", "at", "value"]) fun _ _ _ _ _ _ us hl => match us, hl with | [_, _, _], _ => rfl
  have F47 := fun_mk (st := s_behind_cut) l47 c47 k47
  have B47 := F47.binds (ps := ["layout", "state", "at"]) fun _ _ _ _ _ _ us hl => match us, hl with | [_, _, _], _ => rfl
  have F48 := fun_mk (st := s_cut_to_tops) l48 c48 k48
  have B48 := F48.binds (ps := ["left", "tops"]) fun _ _ _ _ _ _ us hl => match us, hl with | [_, _], _ => rfl
  have F49 := fun_mk (st := s_behind_line) l49 c49 k49
  have B49 := F49.binds (ps := ["layout", "state", "at"]) fun _ _ _ _ _ _ us hl => match us, hl with | [_, _, _], _ => rfl
  have F50 := fun_mk (st := s_behind_loss) l50 c50 k50
  have B50 := F50.binds (ps := ["state"]) fun _ _ _ _ _ _ us hl => match us, hl with | [_], _ => rfl
  have F51 := fun_mk (st := s_to_remember) l51 c51 k51
  have B51 := F51.binds (ps := ["layout", "units"]) fun _ _ _ _ _ _ us hl => match us, hl with | [_, _], _ => rfl
  have F52 := fun_mk (st := s_takes_for_stopped) l52 c52 k52
  have B52 := F52.binds (ps := ["layout", "state", "at"]) fun _ _ _ _ _ _ us hl => match us, hl with | [_, _, _], _ => rfl
  have F53 := fun_mk (st := s_word_of_payment) l53 c53 k53
  have B53 := F53.binds (ps := ["layout", "state", "at", "units"]) fun _ _ _ _ _ _ us hl => match us, hl with | [_, _, _, _], _ => rfl
  have F54 := fun_mk (st := s_behind_payment) l54 c54 k54
  have B54 := F54.binds (ps := ["layout", "state", "at", "units"]) fun _ _ _ _ _ _ us hl => match us, hl with | [_, _, _, _], _ => rfl
  have F55 := fun_mk (st := s_behind_top) l55 c55 k55
  have B55 := F55.binds (ps := ["state", "units"]) fun _ _ _ _ _ _ us hl => match us, hl with | [_, _], _ => rfl
  have F56 := fun_mk (st := s_moved) l56 c56 k56
  have B56 := F56.binds (ps := ["layout", "state", "event"]) fun _ _ _ _ _ _ us hl => match us, hl with | [_, _, _], _ => rfl
  have F57 := fun_mk (st := s_steps_from) l57 c57 k57
  have B57 := F57.binds (ps := ["layout", "state"]) fun _ _ _ _ _ _ us hl => match us, hl with | [_, _], _ => rfl
  have F58 := fun_mk (st := s_steps) l58 c58 k58
  have B58 := F58.binds (ps := ["town", "state"]) fun _ _ _ _ _ _ us hl => match us, hl with | [_, _], _ => rfl
  have F59 := fun_mk (st := s_law) l59 c59 k59
  have B59 := F59.binds (ps := ["_law_script"]) fun _ _ _ _ _ _ us hl => match us, hl with | [_], _ => rfl
  let T : Txt K mg := { a__law_first := f1, d__law_first := _, F__law_first := F1, b__law_first := B1, g__law_first := PySem.W.mg_of X G a1, k__law_first := k1, a_is_integer := f2, d_is_integer := _, F_is_integer := F2, b_is_integer := B2, g_is_integer := PySem.W.mg_of X G a2, k_is_integer := k2, a_is_integer_to := f3, d_is_integer_to := _, F_is_integer_to := F3, b_is_integer_to := B3, g_is_integer_to := PySem.W.mg_of X G a3, k_is_integer_to := k3, a_is_limit := f4, d_is_limit := _, F_is_limit := F4, b_is_limit := B4, g_is_limit := PySem.W.mg_of X G a4, k_is_limit := k4, a_is_name := f5, d_is_name := _, F_is_name := F5, b_is_name := B5, g_is_name := PySem.W.mg_of X G a5, k_is_name := k5, a_is_truth := f6, d_is_truth := _, F_is_truth := F6, b_is_truth := B6, g_is_truth := PySem.W.mg_of X G a6, k_is_truth := k6, a_Till_init := f7, d_Till_init := _, F_Till_init := F7, mk_Till := ⟨m_Till, a7, i7, q_Till⟩, kb_Till_init_2_heeds := ⟨fun s us ws _ l1 l2 => match us, ws, l1, l2 with | [_, _, _], [_], _, _ => .of_eq rfl, fun r1 r2 => r1.append r2⟩, a_ascending_links := f8, d_ascending_links := _, F_ascending_links := F8, b_ascending_links := B8, g_ascending_links := PySem.W.mg_of X G a8, k_ascending_links := k8, a_is_link := f9, d_is_link := _, F_is_link := F9, b_is_link := B9, g_is_link := PySem.W.mg_of X G a9, k_is_link := k9, a_is_list := f10, d_is_list := _, F_is_list := F10, b_is_list := B10, g_is_list := PySem.W.mg_of X G a10, k_is_list := k10, a_check_links := f11, d_check_links := _, F_check_links := F11, b_check_links := B11, g_check_links := PySem.W.mg_of X G a11, k_check_links := k11, a_is_word := f12, d_is_word := _, F_is_word := F12, b_is_word := B12, g_is_word := PySem.W.mg_of X G a12, k_is_word := k12, a_is_memory := f13, d_is_memory := _, F_is_memory := F13, b_is_memory := B13, g_is_memory := PySem.W.mg_of X G a13, k_is_memory := k13, a_check_parts := f14, d_check_parts := _, F_check_parts := F14, b_check_parts := B14, g_check_parts := PySem.W.mg_of X G a14, k_check_parts := k14, a_check_tills := f15, d_check_tills := _, F_check_tills := F15, b_check_tills := B15, g_check_tills := PySem.W.mg_of X G a15, k_check_tills := k15, a_Town_init := f16, d_Town_init := _, F_Town_init := F16, mk_Town := ⟨m_Town, a16, i16, q_Town⟩, kb_Town_init_1_links_money_memory_tops_numbered := ⟨fun s us ws _ l1 l2 => match us, ws, l1, l2 with | [_, _], [_, _, _, _, _], _, _ => .of_eq rfl, fun r1 r2 => r1.append r2⟩, a__law_made := f17, d__law_made := _, F__law_made := F17, b__law_made := B17, g__law_made := PySem.W.mg_of X G a17, k__law_made := k17, a__law_draw := f18, d__law_draw := _, F__law_draw := F18, b__law_draw := B18, g__law_draw := PySem.W.mg_of X G a18, k__law_draw := k18, a__law_pick := f19, d__law_pick := _, F__law_pick := F19, b__law_pick := B19, g__law_pick := PySem.W.mg_of X G a19, k__law_pick := k19, a__law_names := f20, d__law_names := _, F__law_names := F20, b__law_names := B20, g__law_names := PySem.W.mg_of X G a20, k__law_names := k20, a__law_plan := f21, d__law_plan := _, F__law_plan := F21, b__law_plan := B21, g__law_plan := PySem.W.mg_of X G a21, k__law_plan := k21, a__law_pool := f22, d__law_pool := _, F__law_pool := F22, b__law_pool := B22, g__law_pool := PySem.W.mg_of X G a22, k__law_pool := k22, a__law_group := f23, d__law_group := _, F__law_group := F23, b__law_group := B23, g__law_group := PySem.W.mg_of X G a23, k__law_group := k23, a__law_low := f24, d__law_low := _, F__law_low := F24, b__law_low := B24, g__law_low := PySem.W.mg_of X G a24, k__law_low := k24, a__law_put := f25, d__law_put := _, F__law_put := F25, b__law_put := B25, g__law_put := PySem.W.mg_of X G a25, k__law_put := k25, a__law_stopped := f26, d__law_stopped := _, F__law_stopped := F26, b__law_stopped := B26, g__law_stopped := PySem.W.mg_of X G a26, k__law_stopped := k26, a__law_lined := f27, d__law_lined := _, F__law_lined := F27, b__law_lined := B27, g__law_lined := PySem.W.mg_of X G a27, k__law_lined := k27, a__law_word := f28, d__law_word := _, F__law_word := F28, b__law_word := B28, g__law_word := PySem.W.mg_of X G a28, k__law_word := k28, a__law_paid := f29, d__law_paid := _, F__law_paid := F29, b__law_paid := B29, g__law_paid := PySem.W.mg_of X G a29, k__law_paid := k29, a__law_after := f30, d__law_after := _, F__law_after := F30, b__law_after := B30, g__law_after := PySem.W.mg_of X G a30, k__law_after := k30, a__law_can := f31, d__law_can := _, F__law_can := F31, b__law_can := B31, g__law_can := PySem.W.mg_of X G a31, k__law_can := k31, a__law_events := f32, d__law_events := _, F__law_events := F32, b__law_events := B32, g__law_events := PySem.W.mg_of X G a32, k__law_events := k32, a__law_choices := f33, d__law_choices := _, F__law_choices := F33, b__law_choices := B33, g__law_choices := PySem.W.mg_of X G a33, k__law_choices := k33, a__law_steps := f34, d__law_steps := _, F__law_steps := F34, b__law_steps := B34, g__law_steps := PySem.W.mg_of X G a34, k__law_steps := k34, a_Town_getitem := f35, d_Town_getitem := _, F_Town_getitem := F35, b_Town_getitem := B35, m_Town_getitem := ⟨a35, i35, k35⟩, fi_Town_getitem := Dm.fnIn_of l35, a_Town_contains := f36, d_Town_contains := _, F_Town_contains := F36, b_Town_contains := B36, m_Town_contains := ⟨a36, i36, k36⟩, a_Town_names := f37, d_Town_names := _, F_Town_names := F37, b_Town_names := B37, m_Town_names := ⟨a37, i37, k37⟩, a_joined_names := f38, d_joined_names := _, F_joined_names := F38, b_joined_names := B38, g_joined_names := PySem.W.mg_of X G a38, k_joined_names := k38, a_Town_group := f39, d_Town_group := _, F_Town_group := F39, b_Town_group := B39, m_Town_group := ⟨a39, i39, k39⟩, a_events_of := f40, d_events_of := _, F_events_of := F40, b_events_of := B40, g_events_of := PySem.W.mg_of X G a40, k_events_of := k40, a_most_remembered := f41, d_most_remembered := _, F_most_remembered := F41, b_most_remembered := B41, g_most_remembered := PySem.W.mg_of X G a41, k_most_remembered := k41, a_Layout_init := f42, d_Layout_init := _, F_Layout_init := F42, b_Layout_init := B42, mk_Layout := ⟨m_Layout, a42, i42, q_Layout⟩, a_can_follow := f43, d_can_follow := _, F_can_follow := F43, b_can_follow := B43, g_can_follow := PySem.W.mg_of X G a43, k_can_follow := k43, a_is_stopped := f44, d_is_stopped := _, F_is_stopped := F44, b_is_stopped := B44, g_is_stopped := PySem.W.mg_of X G a44, k_is_stopped := k44, a_with_group := f45, d_with_group := _, F_with_group := F45, b_with_group := B45, g_with_group := PySem.W.mg_of X G a45, k_with_group := k45, a_with_item := f46, d_with_item := _, F_with_item := F46, b_with_item := B46, g_with_item := PySem.W.mg_of X G a46, k_with_item := k46, a_behind_cut := f47, d_behind_cut := _, F_behind_cut := F47, b_behind_cut := B47, g_behind_cut := PySem.W.mg_of X G a47, k_behind_cut := k47, a_cut_to_tops := f48, d_cut_to_tops := _, F_cut_to_tops := F48, b_cut_to_tops := B48, g_cut_to_tops := PySem.W.mg_of X G a48, k_cut_to_tops := k48, a_behind_line := f49, d_behind_line := _, F_behind_line := F49, b_behind_line := B49, g_behind_line := PySem.W.mg_of X G a49, k_behind_line := k49, a_behind_loss := f50, d_behind_loss := _, F_behind_loss := F50, b_behind_loss := B50, g_behind_loss := PySem.W.mg_of X G a50, k_behind_loss := k50, a_to_remember := f51, d_to_remember := _, F_to_remember := F51, b_to_remember := B51, g_to_remember := PySem.W.mg_of X G a51, k_to_remember := k51, a_takes_for_stopped := f52, d_takes_for_stopped := _, F_takes_for_stopped := F52, b_takes_for_stopped := B52, g_takes_for_stopped := PySem.W.mg_of X G a52, k_takes_for_stopped := k52, a_word_of_payment := f53, d_word_of_payment := _, F_word_of_payment := F53, b_word_of_payment := B53, g_word_of_payment := PySem.W.mg_of X G a53, k_word_of_payment := k53, a_behind_payment := f54, d_behind_payment := _, F_behind_payment := F54, b_behind_payment := B54, g_behind_payment := PySem.W.mg_of X G a54, k_behind_payment := k54, a_behind_top := f55, d_behind_top := _, F_behind_top := F55, b_behind_top := B55, g_behind_top := PySem.W.mg_of X G a55, k_behind_top := k55, a_moved := f56, d_moved := _, F_moved := F56, b_moved := B56, g_moved := PySem.W.mg_of X G a56, k_moved := k56, a_steps_from := f57, d_steps_from := _, F_steps_from := F57, b_steps_from := B57, g_steps_from := PySem.W.mg_of X G a57, k_steps_from := k57, a_steps := f58, d_steps := _, F_steps := F58, b_steps := B58, g_steps := PySem.W.mg_of X G a58, k_steps := k58, a_law := fa, d_law := _, F_law := F59, b_law := B59, g_law := PySem.W.mg_of X G a59, k_law := k59, c_Layout := kLayout, g_Layout := PySem.W.mg_of X G p_Layout, cl_Layout := ⟨pg_Layout, hd_Layout, po_Layout, sa_Layout⟩, n_Layout_indexes := n_Layout_indexes, n_Layout_limits := n_Layout_limits, n_Layout_heeding := n_Layout_heeding, n_Layout_groups := n_Layout_groups, n_Layout_kind := n_Layout_kind, n_Layout_top_remembered := n_Layout_top_remembered, n_Layout_numbered := n_Layout_numbered, n_Layout_plain_events := n_Layout_plain_events, c_Till := kTill, g_Till := PySem.W.mg_of X G p_Till, cl_Till := ⟨pg_Till, hd_Till, po_Till, sa_Till⟩, n_Till_name := n_Till_name, n_Till_limit := n_Till_limit, n_Till_heeds := n_Till_heeds, ic_Till := ic_Till, mr_Till := mr_Till, ki_Till := Kx.kit_self, ty_Till := ty_Till, c_Town := kTown, g_Town := PySem.W.mg_of X G p_Town, cl_Town := ⟨pg_Town, hd_Town, po_Town, sa_Town⟩, n_Town__tills := n_Town__tills, n_Town__by_name := n_Town__by_name, n_Town_links := n_Town_links, n_Town_money := n_Town_money, n_Town_memory := n_Town_memory, n_Town_tops := n_Town_tops, n_Town_numbered := n_Town_numbered, sp_cls := sp_cls, tk_cls := tk_cls, no_abs := PySem.W.mg_none_of X G z_abs, no_all := PySem.W.mg_none_of X G z_all, no_any := PySem.W.mg_none_of X G z_any, no_bool := PySem.W.mg_none_of X G z_bool, no_enumerate := PySem.W.mg_none_of X G z_enumerate, no_int := PySem.W.mg_none_of X G z_int, no_isinstance := PySem.W.mg_none_of X G z_isinstance, no_len := PySem.W.mg_none_of X G z_len, no_list := PySem.W.mg_none_of X G z_list, no_max := PySem.W.mg_none_of X G z_max, no_min := PySem.W.mg_none_of X G z_min, no_range := PySem.W.mg_none_of X G z_range, no_sorted := PySem.W.mg_none_of X G z_sorted, no_str := PySem.W.mg_none_of X G z_str, no_sum := PySem.W.mg_none_of X G z_sum, no_tuple := PySem.W.mg_none_of X G z_tuple, t_LONGEST_NAME := tk_LONGEST_NAME, g_LONGEST_NAME := PySem.W.mg_of X G c_LONGEST_NAME, t_MOST_TILLS := tk_MOST_TILLS, g_MOST_TILLS := PySem.W.mg_of X G c_MOST_TILLS, t_MOST_TOPS := tk_MOST_TOPS, g_MOST_TOPS := PySem.W.mg_of X G c_MOST_TOPS, t_TOP_LIMIT := tk_TOP_LIMIT, g_TOP_LIMIT := PySem.W.mg_of X G c_TOP_LIMIT, t_TOP_MONEY := tk_TOP_MONEY, g_TOP_MONEY := PySem.W.mg_of X G c_TOP_MONEY, t_TOP_REMEMBERED := tk_TOP_REMEMBERED, g_TOP_REMEMBERED := PySem.W.mg_of X G c_TOP_REMEMBERED, w_UNITS := w_UNITS, g_UNITS := PySem.W.mg_of X G c_UNITS, q_UNITS := ⟨_, _, _, u_UNITS, rfl, rfl, (show 2 ≤ sizeLine by decide), (.cons ⟨_, rfl⟩ (.cons ⟨_, rfl⟩ .nil))⟩ }
  exact ⟨T.d_law, fun s v => .of_eq rfl, fun base _ _ => (ok_law T).imp (Dm.law_sp (w := T.W) law_true)⟩
theorem walk {l : PySem.W.OpenLaw} {q : Program} {loose : List Str} {XP : (Str → Option Value) → Heap → Prop} {YP : World → Heap → Prop} {d : DefRec} {K : Params → PySem.W.Frag} (hn : l.most = some 63) (hdf : d.params.defaults = [])
    (hY : ∀ (w : World) (h : Heap), YP w h → (K w.params).In h)
    (F : ∀ (w : World) (mg : Str → Option Value) (fa : Addr) (h : Heap), (K w.params).In h → h.Ns mainGlobals mg → mg d.name = some (.ref fa) →
      ∃ fd : FuncData, (∀ (s : Shared) (u : Value), BindsTo s fd ⟨[u], []⟩ [("_law_script", u)]) ∧ ∀ base : Heap, (K w.params).In base → base.Ns mainGlobals mg → FnOk l.prog w (K w.params) mg base CX0 8 fa fd ["_law_script"] (Dm.spLaw (K w.params))) :
    PySem.W.WalkO q loose XP YP l.row.toRowW d [] (fun f vs => PySem.call f vs) :=
  L2.walk_of (n := 63) (k := 8) (x := "_law_script") (CX := fun _ => CX0) (sp := fun w => Dm.spLaw (K w.params)) hn (by decide) hdf ⟨rfl, by decide, by decide⟩ hY F (fun _ _ a ns hl _ hS => ⟨a, ns, rfl, hS, hl, fun _ => rfl⟩) fun _ _ _ _ _ z => z
end Toy
open PySem PySem.W PyProof.Rows
set_option maxRecDepth 100000 in
set_option maxHeartbeats 0 in
theorem PySem.Challenge.cw_cutofftills_k29_steps_told_holds : PySem.Challenge.rw_cutofftills_k29_steps_told.Holds := by
  w_on; o_law; k_head; (case hw => w_witness2)
  k_fill
  refine Toy.walk (l := PySem.Challenge.rw_cutofftills_k29_steps_told) rfl rfl (fun w h Y => PySem.W.kIn_of Y) ?F
  case F =>
    intro w mg fa h KX G hmg
    refine' Toy.all_mk KX G hmg ?p_Town ?pg_Town ?hd_Town ?po_Town ?sa_Town ?m_Town ?q_Town ?n_Town__tills ?n_Town__by_name ?n_Town_links ?n_Town_money ?n_Town_memory ?n_Town_tops ?n_Town_numbered ?p_Till ?pg_Till ?hd_Till ?po_Till ?sa_Till ?m_Till ?q_Till ?n_Till_name ?n_Till_limit ?n_Till_heeds ?ic_Till ?mr_Till ?ty_Till ?p_Layout ?pg_Layout ?hd_Layout ?po_Layout ?sa_Layout ?m_Layout ?q_Layout ?n_Layout_indexes ?n_Layout_limits ?n_Layout_heeding ?n_Layout_groups ?n_Layout_kind ?n_Layout_top_remembered ?n_Layout_numbered ?n_Layout_plain_events ?a1 ?l1 ?c1 ?k1 ?a2 ?l2 ?c2 ?k2 ?a3 ?l3 ?c3 ?k3 ?a4 ?l4 ?c4 ?k4 ?a5 ?l5 ?c5 ?k5 ?a6 ?l6 ?c6 ?k6 ?a7 ?l7 ?c7 ?k7 ?i7 ?a8 ?l8 ?c8 ?k8 ?a9 ?l9 ?c9 ?k9 ?a10 ?l10 ?c10 ?k10 ?a11 ?l11 ?c11 ?k11 ?a12 ?l12 ?c12 ?k12 ?a13 ?l13 ?c13 ?k13 ?a14 ?l14 ?c14 ?k14 ?a15 ?l15 ?c15 ?k15 ?a16 ?l16 ?c16 ?k16 ?i16 ?a17 ?l17 ?c17 ?k17 ?a18 ?l18 ?c18 ?k18 ?a19 ?l19 ?c19 ?k19 ?a20 ?l20 ?c20 ?k20 ?a21 ?l21 ?c21 ?k21 ?a22 ?l22 ?c22 ?k22 ?a23 ?l23 ?c23 ?k23 ?a24 ?l24 ?c24 ?k24 ?a25 ?l25 ?c25 ?k25 ?a26 ?l26 ?c26 ?k26 ?a27 ?l27 ?c27 ?k27 ?a28 ?l28 ?c28 ?k28 ?a29 ?l29 ?c29 ?k29 ?a30 ?l30 ?c30 ?k30 ?a31 ?l31 ?c31 ?k31 ?a32 ?l32 ?c32 ?k32 ?a33 ?l33 ?c33 ?k33 ?a34 ?l34 ?c34 ?k34 ?a35 ?l35 ?c35 ?k35 ?i35 ?a36 ?l36 ?c36 ?k36 ?i36 ?a37 ?l37 ?c37 ?k37 ?i37 ?a38 ?l38 ?c38 ?k38 ?a39 ?l39 ?c39 ?k39 ?i39 ?a40 ?l40 ?c40 ?k40 ?a41 ?l41 ?c41 ?k41 ?a42 ?l42 ?c42 ?k42 ?i42 ?a43 ?l43 ?c43 ?k43 ?a44 ?l44 ?c44 ?k44 ?a45 ?l45 ?c45 ?k45 ?a46 ?l46 ?c46 ?k46 ?a47 ?l47 ?c47 ?k47 ?a48 ?l48 ?c48 ?k48 ?a49 ?l49 ?c49 ?k49 ?a50 ?l50 ?c50 ?k50 ?a51 ?l51 ?c51 ?k51 ?a52 ?l52 ?c52 ?k52 ?a53 ?l53 ?c53 ?k53 ?a54 ?l54 ?c54 ?k54 ?a55 ?l55 ?c55 ?k55 ?a56 ?l56 ?c56 ?k56 ?a57 ?l57 ?c57 ?k57 ?a58 ?l58 ?c58 ?k58 ?a59 ?l59 ?c59 ?k59 ?sp_cls ?tk_cls ?z_abs ?z_all ?z_any ?z_bool ?z_enumerate ?z_int ?z_isinstance ?z_len ?z_list ?z_max ?z_min ?z_range ?z_sorted ?z_str ?z_sum ?z_tuple ?c_LONGEST_NAME ?c_MOST_TILLS ?c_MOST_TOPS ?c_TOP_LIMIT ?c_TOP_MONEY ?c_TOP_REMEMBERED ?c_UNITS ?u_UNITS
    (case p_Town => k_is)
    (case pg_Town => k_is)
    (case hd_Town => k_is)
    (case po_Town => k_is)
    (case sa_Town => k_is)
    (case m_Town => k_is)
    (case q_Town => k_is)
    (case n_Town__tills => k_is)
    (case n_Town__by_name => k_is)
    (case n_Town_links => k_is)
    (case n_Town_money => k_is)
    (case n_Town_memory => k_is)
    (case n_Town_tops => k_is)
    (case n_Town_numbered => k_is)
    (case p_Till => k_is)
    (case pg_Till => k_is)
    (case hd_Till => k_is)
    (case po_Till => k_is)
    (case sa_Till => k_is)
    (case m_Till => k_is)
    (case q_Till => k_is)
    (case n_Till_name => k_is)
    (case n_Till_limit => k_is)
    (case n_Till_heeds => k_is)
    (case ic_Till => k_is)
    (case mr_Till => k_is)
    (case ty_Till => k_is)
    (case p_Layout => k_is)
    (case pg_Layout => k_is)
    (case hd_Layout => k_is)
    (case po_Layout => k_is)
    (case sa_Layout => k_is)
    (case m_Layout => k_is)
    (case q_Layout => k_is)
    (case n_Layout_indexes => k_is)
    (case n_Layout_limits => k_is)
    (case n_Layout_heeding => k_is)
    (case n_Layout_groups => k_is)
    (case n_Layout_kind => k_is)
    (case n_Layout_top_remembered => k_is)
    (case n_Layout_numbered => k_is)
    (case n_Layout_plain_events => k_is)
    (case a1 => k_is)
    (case l1 => k_is)
    (case c1 => k_is)
    (case k1 => k_is)
    (case a2 => k_is)
    (case l2 => k_is)
    (case c2 => k_is)
    (case k2 => k_is)
    (case a3 => k_is)
    (case l3 => k_is)
    (case c3 => k_is)
    (case k3 => k_is)
    (case a4 => k_is)
    (case l4 => k_is)
    (case c4 => k_is)
    (case k4 => k_is)
    (case a5 => k_is)
    (case l5 => k_is)
    (case c5 => k_is)
    (case k5 => k_is)
    (case a6 => k_is)
    (case l6 => k_is)
    (case c6 => k_is)
    (case k6 => k_is)
    (case a7 => k_is)
    (case l7 => k_is)
    (case c7 => k_is)
    (case k7 => k_is)
    (case i7 => k_is)
    (case a8 => k_is)
    (case l8 => k_is)
    (case c8 => k_is)
    (case k8 => k_is)
    (case a9 => k_is)
    (case l9 => k_is)
    (case c9 => k_is)
    (case k9 => k_is)
    (case a10 => k_is)
    (case l10 => k_is)
    (case c10 => k_is)
    (case k10 => k_is)
    (case a11 => k_is)
    (case l11 => k_is)
    (case c11 => k_is)
    (case k11 => k_is)
    (case a12 => k_is)
    (case l12 => k_is)
    (case c12 => k_is)
    (case k12 => k_is)
    (case a13 => k_is)
    (case l13 => k_is)
    (case c13 => k_is)
    (case k13 => k_is)
    (case a14 => k_is)
    (case l14 => k_is)
    (case c14 => k_is)
    (case k14 => k_is)
    (case a15 => k_is)
    (case l15 => k_is)
    (case c15 => k_is)
    (case k15 => k_is)
    (case a16 => k_is)
    (case l16 => k_is)
    (case c16 => k_is)
    (case k16 => k_is)
    (case i16 => k_is)
    (case a17 => k_is)
    (case l17 => k_is)
    (case c17 => k_is)
    (case k17 => k_is)
    (case a18 => k_is)
    (case l18 => k_is)
    (case c18 => k_is)
    (case k18 => k_is)
    (case a19 => k_is)
    (case l19 => k_is)
    (case c19 => k_is)
    (case k19 => k_is)
    (case a20 => k_is)
    (case l20 => k_is)
    (case c20 => k_is)
    (case k20 => k_is)
    (case a21 => k_is)
    (case l21 => k_is)
    (case c21 => k_is)
    (case k21 => k_is)
    (case a22 => k_is)
    (case l22 => k_is)
    (case c22 => k_is)
    (case k22 => k_is)
    (case a23 => k_is)
    (case l23 => k_is)
    (case c23 => k_is)
    (case k23 => k_is)
    (case a24 => k_is)
    (case l24 => k_is)
    (case c24 => k_is)
    (case k24 => k_is)
    (case a25 => k_is)
    (case l25 => k_is)
    (case c25 => k_is)
    (case k25 => k_is)
    (case a26 => k_is)
    (case l26 => k_is)
    (case c26 => k_is)
    (case k26 => k_is)
    (case a27 => k_is)
    (case l27 => k_is)
    (case c27 => k_is)
    (case k27 => k_is)
    (case a28 => k_is)
    (case l28 => k_is)
    (case c28 => k_is)
    (case k28 => k_is)
    (case a29 => k_is)
    (case l29 => k_is)
    (case c29 => k_is)
    (case k29 => k_is)
    (case a30 => k_is)
    (case l30 => k_is)
    (case c30 => k_is)
    (case k30 => k_is)
    (case a31 => k_is)
    (case l31 => k_is)
    (case c31 => k_is)
    (case k31 => k_is)
    (case a32 => k_is)
    (case l32 => k_is)
    (case c32 => k_is)
    (case k32 => k_is)
    (case a33 => k_is)
    (case l33 => k_is)
    (case c33 => k_is)
    (case k33 => k_is)
    (case a34 => k_is)
    (case l34 => k_is)
    (case c34 => k_is)
    (case k34 => k_is)
    (case a35 => k_is)
    (case l35 => k_is)
    (case c35 => k_is)
    (case k35 => k_is)
    (case i35 => k_is)
    (case a36 => k_is)
    (case l36 => k_is)
    (case c36 => k_is)
    (case k36 => k_is)
    (case i36 => k_is)
    (case a37 => k_is)
    (case l37 => k_is)
    (case c37 => k_is)
    (case k37 => k_is)
    (case i37 => k_is)
    (case a38 => k_is)
    (case l38 => k_is)
    (case c38 => k_is)
    (case k38 => k_is)
    (case a39 => k_is)
    (case l39 => k_is)
    (case c39 => k_is)
    (case k39 => k_is)
    (case i39 => k_is)
    (case a40 => k_is)
    (case l40 => k_is)
    (case c40 => k_is)
    (case k40 => k_is)
    (case a41 => k_is)
    (case l41 => k_is)
    (case c41 => k_is)
    (case k41 => k_is)
    (case a42 => k_is)
    (case l42 => k_is)
    (case c42 => k_is)
    (case k42 => k_is)
    (case i42 => k_is)
    (case a43 => k_is)
    (case l43 => k_is)
    (case c43 => k_is)
    (case k43 => k_is)
    (case a44 => k_is)
    (case l44 => k_is)
    (case c44 => k_is)
    (case k44 => k_is)
    (case a45 => k_is)
    (case l45 => k_is)
    (case c45 => k_is)
    (case k45 => k_is)
    (case a46 => k_is)
    (case l46 => k_is)
    (case c46 => k_is)
    (case k46 => k_is)
    (case a47 => k_is)
    (case l47 => k_is)
    (case c47 => k_is)
    (case k47 => k_is)
    (case a48 => k_is)
    (case l48 => k_is)
    (case c48 => k_is)
    (case k48 => k_is)
    (case a49 => k_is)
    (case l49 => k_is)
    (case c49 => k_is)
    (case k49 => k_is)
    (case a50 => k_is)
    (case l50 => k_is)
    (case c50 => k_is)
    (case k50 => k_is)
    (case a51 => k_is)
    (case l51 => k_is)
    (case c51 => k_is)
    (case k51 => k_is)
    (case a52 => k_is)
    (case l52 => k_is)
    (case c52 => k_is)
    (case k52 => k_is)
    (case a53 => k_is)
    (case l53 => k_is)
    (case c53 => k_is)
    (case k53 => k_is)
    (case a54 => k_is)
    (case l54 => k_is)
    (case c54 => k_is)
    (case k54 => k_is)
    (case a55 => k_is)
    (case l55 => k_is)
    (case c55 => k_is)
    (case k55 => k_is)
    (case a56 => k_is)
    (case l56 => k_is)
    (case c56 => k_is)
    (case k56 => k_is)
    (case a57 => k_is)
    (case l57 => k_is)
    (case c57 => k_is)
    (case k57 => k_is)
    (case a58 => k_is)
    (case l58 => k_is)
    (case c58 => k_is)
    (case k58 => k_is)
    (case a59 => k_is)
    (case l59 => k_is)
    (case c59 => k_is)
    (case k59 => k_is)
    (case sp_cls => k_is)
    (case tk_cls => k_is)
    (case z_abs => k_is)
    (case z_all => k_is)
    (case z_any => k_is)
    (case z_bool => k_is)
    (case z_enumerate => k_is)
    (case z_int => k_is)
    (case z_isinstance => k_is)
    (case z_len => k_is)
    (case z_list => k_is)
    (case z_max => k_is)
    (case z_min => k_is)
    (case z_range => k_is)
    (case z_sorted => k_is)
    (case z_str => k_is)
    (case z_sum => k_is)
    (case z_tuple => k_is)
    (case c_LONGEST_NAME => k_is)
    (case c_MOST_TILLS => k_is)
    (case c_MOST_TOPS => k_is)
    (case c_TOP_LIMIT => k_is)
    (case c_TOP_MONEY => k_is)
    (case c_TOP_REMEMBERED => k_is)
    (case c_UNITS => k_is)
    (case u_UNITS => k_is)
