import PyProof.Rows.All
import Wide.All
import OpenK.AllK
import Wide.FinOn
import HandS.ForMost
import HandS.IsInst
import HandS.Style
import HandS.Flow
import HandS.Codes
import HandS.Wide
import HandS.Walk
import HandS.Deep
import HandS.DictComp
import HandS.DictTup
import HandS.Small
import HandS.RaiseMore
import HandS.Defaults
import HandS.MakeKwOnly
import HandS.Zip
import PySem.Challenge.RW_cutofftills_k07_events
set_option Elab.async false
set_option linter.all false
set_option maxRecDepth 100000
set_option maxHeartbeats 4000000
namespace Kx
open PySem PySem.Spec L2

/-! ### one reading at a time -/
section
variable {σ : St} {H : Hp} {v x y : V} {Q : VK} {i : Nat} {ta tb tc te : TE} {t u : TT} {D : Ends} {s1 s2 : TS}
theorem q_var (h : ∃ v, σ[i]? = some (some v) ∧ Q v H) : tVar i σ H Q := h
theorem q_c (q : Q v H) : tC v σ H Q := q
theorem q_op {r : R2} (h : ta σ H fun x H1 => tb σ H1 fun y H2 => r x y H2 Q) : tOp r ta tb σ H Q := h
theorem q_un {r : V → Hp → VK → Prop} (h : ta σ H fun x H1 => r x H1 Q) : tUn r ta σ H Q := h
theorem q_cb {r : List V → Hp → VK → Prop} {tr : TA} (h : tr σ H fun xs H1 => r xs H1 Q) : tCB r tr σ H Q := h
theorem q_test {Qb : Bool → Hp → Prop} (h : te σ H fun x H1 => ∃ k, x = .bl k ∧ Qb k H1) : tTest te σ H Qb := h
theorem q_B {Qb : Bool → Hp → Prop} (h : te σ H fun x H1 => ∃ k, x = .bl k ∧ Qb k H1) : tB te σ H Qb := h
theorem q_bl {b : Bool} {Qb : Bool → Hp → Prop} (q : Qb b H) : ∃ k, V.bl b = .bl k ∧ Qb k H := ⟨b, rfl, q⟩
theorem q_blI {b : Bool} {A : Bool → Prop} (q : A b) : ∃ k, V.bl b = .bl k ∧ A k := ⟨b, rfl, q⟩
theorem q_and {Qb : Bool → Hp → Prop} (h : t σ H fun c H1 => if c = true then u σ H1 Qb else Qb false H1) : tAnd t u σ H Qb := h
theorem q_or {Qb : Bool → Hp → Prop} (h : t σ H fun c H1 => if c = true then Qb true H1 else u σ H1 Qb) : tOr t u σ H Qb := h
theorem q_not {Qb : Bool → Hp → Prop} (h : t σ H fun c H1 => Qb (!c) H1) : tNot t σ H Qb := h
theorem q_andV (h : ta σ H fun x H1 => ∃ c, x = .bl c ∧ if c = true then tb σ H1 Q else Q (.bl false) H1) : tAndV ta tb σ H Q := h
theorem q_orV (h : ta σ H fun x H1 => ∃ c, x = .bl c ∧ if c = true then Q (.bl true) H1 else tb σ H1 Q) : tOrV ta tb σ H Q := h
theorem q_notV (h : ta σ H fun x H1 => ∃ c, x = .bl c ∧ Q (.bl (!c)) H1) : tNotV ta σ H Q := h
theorem q_if (h : t σ H fun c H1 => if c = true then ta σ H1 Q else tb σ H1 Q) : tIf t ta tb σ H Q := h
theorem q_chain {r r' : R2} (h : ta σ H fun x H1 => tb σ H1 fun y H2 => r x y H2 fun z H3 => ∃ k, z = .bl k ∧ (if k = true then tc σ H3 fun w' H4 => r' y w' H4 Q else Q (.bl false) H3)) : tChain r r' ta tb tc σ H Q := h
theorem q_call {sp : Sp} {dvs : List V} {E : XK} {tr : TA} (h : tr σ H fun vs H1 => sp (vs ++ dvs) H1 Q E) : tCall sp dvs E tr σ H Q := h
theorem q_nil {Qa : List V → Hp → Prop} (q : Qa [] H) : tNil σ H Qa := q
theorem q_cons {tr : TA} {Qa : List V → Hp → Prop} (h : te σ H fun x H1 => tr σ H1 fun xs H2 => Qa (x :: xs) H2) : tCons te tr σ H Qa := h
theorem q_tup {tr : TA} (h : tr σ H fun xs H1 => xs.length ≤ sizeLine ∧ ∀ p, H1 p = none → Q (.ref p) (upd H1 p (.tup xs))) : tTup tr σ H Q := h
theorem q_lst {tr : TA} (h : tr σ H fun xs H1 => xs.length ≤ sizeLine ∧ ∀ p, H1 p = none → Q (.ref p) (upd H1 p (.lst xs))) : tLst tr σ H Q := h
theorem q_sl {r : V → Option Int → Option Int → Hp → VK → Prop} {tl th : TO} (h : te σ H fun x H1 => tl σ H1 fun l H2 => th σ H2 fun u H3 => r x l u H3 Q) : tSl r te tl th σ H Q := h
theorem q_noPart {Qo : Option Int → Hp → Prop} (q : Qo none H) : tNoPart σ H Qo := q
theorem q_part {Qo : Option Int → Hp → Prop} (h : te σ H fun x H1 => ∃ i, x = .int i ∧ Qo (some i) H1) : tPart te σ H Qo := h
theorem q_int {i : Int} {A : Int → Prop} (q : A i) : ∃ k, V.int i = .int k ∧ A k := ⟨i, rfl, q⟩
theorem q_yes {Qb : Bool → Hp → Prop} (q : Qb true H) : tYes σ H Qb := q
theorem q_seq (h : s1 { D with nx := s2 D } σ H) : tSeq s1 s2 D σ H := h
theorem q_next (h : D.nx σ H) : tNext D σ H := h
theorem q_asgN (h : te σ H fun x H1 => D.nx (σ.set i (some x)) H1) : tAsg te (gName i) D σ H := h
theorem q_asg {g : TG} (h : te σ H fun x H1 => g x σ H1 D.nx) : tAsg te g D σ H := h
theorem q_ret (h : te σ H D.rt) : tRet te D σ H := h
theorem q_drop (h : te σ H fun _ H1 => D.nx σ H1) : tDrop te D σ H := h
theorem q_ifS {c : TT} (h : c σ H fun b H1 => if b = true then s1 D σ H1 else s2 D σ H1) : tIfS c s1 s2 D σ H := h
theorem q_par {j : Nat} {tr : TA} (h : tr σ H fun vs H1 => ∃ v w, vs = [v, w] ∧ D.nx ((σ.set i (some v)).set j (some w)) H1) : tPar i j tr D σ H := h
theorem q_two {a b : V} {A : V → V → Prop} (q : A a b) : ∃ v w, [a, b] = [v, w] ∧ A v w := ⟨a, b, rfl, q⟩
theorem q_I0 {g : Int → Int → V} {i j : Int} (q : Q (g i j) H) : rI0 g (.int i) (.int j) H Q := ⟨i, j, rfl, rfl, q⟩
theorem q_I {C : Int → Int → Prop} {g : Int → Int → V} {i j : Int} (hc : C i j) (q : Q (g i j) H) : rI C g (.int i) (.int j) H Q := ⟨i, j, rfl, rfl, hc, q⟩
theorem q_U {g : Int → V} {i : Int} (q : Q (g i) H) : rU g (.int i) H Q := ⟨i, rfl, q⟩
theorem q_eq (h : scal x y = true) (q : Q (.bl (decide (x = y))) H) : rEq x y H Q := ⟨h, q⟩
theorem q_ne (h : scal x y = true) (q : Q (.bl (!decide (x = y))) H) : rNe x y H Q := ⟨h, q⟩
theorem q_isB {a b : Bool} (q : Q (.bl (decide (a = b))) H) : rIsB (.bl a) (.bl b) H Q := ⟨a, b, rfl, rfl, q⟩
theorem q_notB {a b : Bool} (q : Q (.bl (!decide (a = b))) H) : rNotB (.bl a) (.bl b) H Q := ⟨a, b, rfl, rfl, q⟩
end
/-! ### tests -/
theorem i_dec {p A B : Prop} [Decidable p] (h1 : p → A) (h2 : ¬ p → B) : if decide p = true then A else B := by
  by_cases h : p
  · rw [if_pos (decide_eq_true h)]; exact h1 h
  · rw [if_neg (by rw [decide_eq_false h]; exact Bool.false_ne_true)]; exact h2 h
theorem i_ndec {p A B : Prop} [Decidable p] (h1 : ¬ p → A) (h2 : p → B) : if (!decide p) = true then A else B := by
  by_cases h : p
  · rw [if_neg (by rw [decide_eq_true h]; exact Bool.false_ne_true)]; exact h2 h
  · rw [if_pos (by rw [decide_eq_false h]; rfl)]; exact h1 h
theorem i_b {b : Bool} {A B : Prop} (h1 : b = true → A) (h2 : b = false → B) : if b = true then A else B := by
  cases b
  · exact iteF (h2 rfl)
  · exact iteT (h1 rfl)
theorem i_yes {b : Bool} {A B : Prop} (h : b = true) (q : A) : if b = true then A else B := by rw [if_pos h]; exact q
theorem i_no {b : Bool} {A B : Prop} (h : b = false) (q : B) : if b = true then A else B := by rw [if_neg (by rw [h]; exact Bool.false_ne_true)]; exact q
theorem i_yesD {p A B : Prop} [Decidable p] (h : p) (q : A) : if decide p = true then A else B := i_yes (decide_eq_true h) q
theorem i_noD {p A B : Prop} [Decidable p] (h : ¬ p) (q : B) : if decide p = true then A else B := i_no (decide_eq_false h) q

/-! ### values of any kind -/
/-- what is looked at by isinstance: the kinds that laws hand in -/
inductive Any (H : Hp) : V → Prop
  | non : Any H .non
  | bl (b : Bool) : Any H (.bl b)
  | int (i : Int) : Any H (.int i)
  | str (s : Str) : Any H (.str s)
  | lst {a : Addr} {xs : List V} (h : H a = some (.lst xs)) : Any H (.ref a)
  | tup {a : Addr} {xs : List V} (h : H a = some (.tup xs)) : Any H (.ref a)
  | dK {a : Addr} {kvs : List (Key × V)} (h : H a = some (.dK kvs)) : Any H (.ref a)
/-- the name of its type -/
def kindOf (H : Hp) : V → String
  | .non => "NoneType"
  | .bl _ => "bool"
  | .int _ => "int"
  | .str _ => "str"
  | .ref a => match H a with
    | some (.lst _) => "list"
    | some (.tup _) => "tuple"
    | some (.dK _) => "dict"
    | _ => "?"
  | _ => "?"
theorem Any.ty {K : PySem.W.Frag} {H : Hp} {x : V} (h : Any H x) : TyX K H x (.type (kindOf H x)) := by
  cases h with
  | non => exact .base .non
  | bl b => exact .base (.bl b)
  | int i => exact .base (.int i)
  | str s => exact .base (.str s)
  | lst h => simp only [kindOf, h]; exact .base (.lst h)
  | tup h => simp only [kindOf, h]; exact .base (.tup h)
  | dK h => simp only [kindOf, h]; exact .base (.dK h)
theorem Any.mem {H : Hp} {x : V} (h : Any H x) : kindOf H x ∈ ["NoneType", "bool", "int", "str", "list", "tuple", "dict"] := by
  cases h with
  | non => simp [kindOf]
  | bl b => simp [kindOf]
  | int i => simp [kindOf]
  | str s => simp [kindOf]
  | lst h => simp [kindOf, h]
  | tup h => simp [kindOf, h]
  | dK h => simp [kindOf, h]
theorem kit_int : ∀ a ∈ ["NoneType", "bool", "int", "str", "list", "tuple", "dict"], kitB a "int" = some (a == "int" || a == "bool") := by decide +kernel
theorem kit_bool : ∀ a ∈ ["NoneType", "bool", "int", "str", "list", "tuple", "dict"], kitB a "bool" = some (a == "bool") := by decide +kernel
theorem kit_str : ∀ a ∈ ["NoneType", "bool", "int", "str", "list", "tuple", "dict"], kitB a "str" = some (a == "str") := by decide +kernel
theorem kit_tuple : ∀ a ∈ ["NoneType", "bool", "int", "str", "list", "tuple", "dict"], kitB a "tuple" = some (a == "tuple") := by decide +kernel
theorem kit_list : ∀ a ∈ ["NoneType", "bool", "int", "str", "list", "tuple", "dict"], kitB a "list" = some (a == "list") := by decide +kernel
section
variable {K : PySem.W.Frag} {H : Hp} {x : V} {Q : VK}
theorem q_isInt (h : Any H x) (q : Q (.bl (kindOf H x == "int" || kindOf H x == "bool")) H) : rIsi K [x, .ty "int"] H Q := ⟨x, .ty "int", _, _, _, rfl, .ty "int", h.ty, kit_ty (kit_int _ h.mem), q⟩
theorem q_isBool (h : Any H x) (q : Q (.bl (kindOf H x == "bool")) H) : rIsi K [x, .ty "bool"] H Q := ⟨x, .ty "bool", _, _, _, rfl, .ty "bool", h.ty, kit_ty (kit_bool _ h.mem), q⟩
theorem q_isStr (h : Any H x) (q : Q (.bl (kindOf H x == "str")) H) : rIsi K [x, .ty "str"] H Q := ⟨x, .ty "str", _, _, _, rfl, .ty "str", h.ty, kit_ty (kit_str _ h.mem), q⟩
theorem q_isTuple (h : Any H x) (q : Q (.bl (kindOf H x == "tuple")) H) : rIsi K [x, .ty "tuple"] H Q := ⟨x, .ty "tuple", _, _, _, rfl, .ty "tuple", h.ty, kit_ty (kit_tuple _ h.mem), q⟩
end
def isInt : V → Bool
  | .int _ => true
  | _ => false
def isIntTo (t : Int) : V → Bool
  | .int i => decide (0 ≤ i) && decide (i ≤ t)
  | _ => false
def isWordV (w : Str) (x : V) : Bool := decide (x = .str w)
/-- one to eight letters from a to z -/
def isNameS (s : Str) : Bool := decide (1 ≤ s.length) && decide (s.length ≤ 8) && s.cps.toList.all fun c => decide (97 ≤ c) && decide (c ≤ 122)
def isNameV : V → Bool
  | .str s => isNameS s
  | _ => false
theorem Any.refl_nt {H : Hp} {x : V} (h : Any H x) : (∃ s, x = .str s) ∨ (∀ s, x ≠ .str s) := by
  cases h <;> first | exact .inl ⟨_, rfl⟩ | exact .inr (fun _ e => nomatch e)

theorem isInt_eq {H : Hp} {x : V} (h : Any H x) : isInt x = ((kindOf H x == "int" || kindOf H x == "bool") && !(kindOf H x == "bool")) := by
  cases h with
  | non => simp [isInt, kindOf]
  | bl b => simp [isInt, kindOf]
  | int i => simp [isInt, kindOf]
  | str s => simp [isInt, kindOf]
  | lst h => simp [isInt, kindOf, h]
  | tup h => simp [isInt, kindOf, h]
  | dK h => simp [isInt, kindOf, h]
theorem isInt_true {x : V} (h : isInt x = true) : ∃ i, x = .int i := by
  cases x <;> first | exact ⟨_, rfl⟩ | (exact nomatch h)
theorem isIntTo_not {x : V} {t : Int} (h : isInt x = false) : isIntTo t x = false := by
  cases x <;> first | rfl | (exact nomatch h)
theorem kind_str {H : Hp} {x : V} (h : Any H x) : (kindOf H x == "str") = true → ∃ s, x = .str s := by
  cases h with
  | str s => exact fun _ => ⟨s, rfl⟩
  | non => exact fun h => absurd h (by simp [kindOf])
  | bl b => exact fun h => absurd h (by simp [kindOf])
  | int i => exact fun h => absurd h (by simp [kindOf])
  | lst h => simp [kindOf, h]
  | tup h => simp [kindOf, h]
  | dK h => simp [kindOf, h]
theorem kind_nstr {H : Hp} {x : V} : (kindOf H x == "str") = false → ∀ s, x ≠ .str s := by
  rintro h s rfl
  exact absurd h (by simp [kindOf])
theorem kind_tup {H : Hp} {x : V} (h : Any H x) : (kindOf H x == "tuple") = true → ∃ a xs, x = .ref a ∧ H a = some (.tup xs) := by
  cases h with
  | tup h => exact fun _ => ⟨_, _, rfl, h⟩
  | str s => exact fun h => absurd h (by simp [kindOf])
  | non => exact fun h => absurd h (by simp [kindOf])
  | bl b => exact fun h => absurd h (by simp [kindOf])
  | int i => exact fun h => absurd h (by simp [kindOf])
  | lst h => simp [kindOf, h]
  | dK h => simp [kindOf, h]
theorem nword_of {w : Str} {x : V} (h : ∀ s, x ≠ .str s) : isWordV w x = false := decide_eq_false (h w)
theorem nname_of {x : V} (h : ∀ s, x ≠ .str s) : isNameV x = false := by
  cases x <;> first | rfl | (exact absurd rfl (h _))

/-! ### comprehensions whose elements store nothing -/
theorem wipe1 (σ : L2.St) (j : Nat) (x : Option V) : wipe ((wipe σ [j]).set j x) [j] = wipe σ [j] := by
  show (((σ.set j none).set j x).set j none) = σ.set j none
  rw [List.set_set, List.set_set]
theorem lc_map {J : It} {n : Nat} {G : Hp → Prop} {Y : Nat → Hp → V → Hp → Prop} (w : Walk J n G Y) {j : Nat} {te : TE} {σ : L2.St} {H1 : Hp} {D : Addr} {Qd : Hp → Prop} (xs : List V) (f : V → V) (hn : n = xs.length) (hN : n < sizeLine)
    (hG : ∀ o, G (upd H1 D o)) (hY : ∀ i H x H', Y i H x H' → H' = H ∧ xs[i]? = some x)
    (he : ∀ (i : Nat) (x : V) (o : HO) (Q : VK), xs[i]? = some x → Q (f x) (upd H1 D o) → te ((wipe σ [j]).set j (some x)) (upd H1 D o) Q) (hd : Qd (upd H1 D (.lst (xs.map f)))) :
    ∃ W : Nat → Nat → Hp → Prop, (∃ m, W 0 m (upd H1 D (.lst []))) ∧ ∀ i m H, W i m H →
      (J.stop i H ∧ Qd H) ∨ (J.go i H ∧ ∃ Nx : Hp → Prop, (∀ H', Nx H' → ∃ m', m' < m ∧ W (i + 1) m' H') ∧ ∀ x H', J.yld i H x H' → gName j x (wipe σ [j]) H' fun σ2 H2 => wipe σ2 [j] = wipe σ [j] ∧ tYes σ2 H2 fun b H3 =>
        if b = true then te σ2 H3 fun y H4 => ∃ acc, H4 D = some (.lst acc) ∧ acc.length < sizeLine ∧ Nx (upd H4 D (.lst (acc ++ [y]))) else Nx H3) := by
  refine lc_it w (fun i H => H = upd H1 D (.lst ((xs.take i).map f))) rfl (fun i H _ e => by rw [e]; exact hG _) (fun i x H H' hi e y => ?_) (fun H e => by rw [e, hn, List.take_length]; exact hd)
  obtain ⟨e2, hx⟩ := hY i H x H' y
  subst e2
  subst e
  refine ⟨wipe1 σ j (some x), ?_⟩
  refine q_yes ?_
  refine iteT ?_
  have hlt : i < xs.length := by omega
  refine he i x _ _ hx ⟨(xs.take i).map f, upd_same, ?_, ?_⟩
  · rw [List.length_map, List.length_take]; omega
  · rw [upd_upd, List.take_add_one, hx, Option.toList_some, List.map_append]; rfl

/-! ### texts -/
theorem tl_len (s : Str) : s.cps.toList.length = s.length := by rw [Array.length_toList]; rfl
theorem str_ext {s z : Str} (h : s.cps.toList = z.cps.toList) : s = z := by
  cases s; cases z
  simp only [Str.mk.injEq]
  exact Array.toList_inj.mp h
theorem tl_app (a b : Str) : (a ++ b).cps.toList = a.cps.toList ++ b.cps.toList := by
  show (a.cps ++ b.cps).toList = _
  rw [Array.toList_append]
theorem len_app (a b : Str) : (a ++ b).length = a.length + b.length := by rw [← tl_len, tl_app, List.length_append, tl_len, tl_len]

/-! ### lists, tuples, texts: length, items -/
section
variable {K : PySem.W.Frag} {H : Hp} {a : Addr} {xs : List V} {v : V} {i : Int} {z : Str} {Q : VK}
theorem q_lenL {A : Nat → Prop} (h : SqL K H a xs) (q : A xs.length) : ∃ x n, [V.ref a] = [x] ∧ LenV K x H n ∧ A n := ⟨_, _, rfl, .inl ⟨_, h, rfl⟩, q⟩
theorem q_lenT {A : Nat → Prop} (h : SqT K H a xs) (q : A xs.length) : ∃ x n, [V.ref a] = [x] ∧ LenV K x H n ∧ A n := ⟨_, _, rfl, .inr ⟨_, h, rfl⟩, q⟩
theorem q_lenS {A : Nat → Prop} (h : z.length ≤ sizeLine) (q : A z.length) : ∃ x n, [V.str z] = [x] ∧ LenV K x H n ∧ A n := ⟨_, _, rfl, ⟨h, rfl⟩, q⟩
theorem q_ixL (h : SqL K H a xs) (e : atI xs i = some v) (q : Q v H) : rIxL K (.ref a) (.int i) H Q := ⟨_, _, _, _, rfl, rfl, h, e, q⟩
theorem q_ixT (h : SqT K H a xs) (e : atI xs i = some v) (q : Q v H) : rIxT K (.ref a) (.int i) H Q := ⟨_, _, _, _, rfl, rfl, h, e, q⟩
theorem q_ixS {c : Nat} (h : z.length ≤ sizeLine) (e : atI z.cps.toList i = some c) (q : Q (.str ⟨#[c]⟩) H) : rIxS (.str z) (.int i) H Q := ⟨_, _, _, rfl, rfl, h, e, q⟩
theorem q_int1 {A : Int → Prop} {B : Bool → Prop} (q : A i) : (∃ j, [V.int i] = [.int j] ∧ A j) ∨ ∃ k, [V.int i] = [.bl k] ∧ B k := .inl ⟨_, rfl, q⟩
theorem q_int1b {b : Bool} {A : Int → Prop} {B : Bool → Prop} (q : B b) : (∃ j, [V.bl b] = [.int j] ∧ A j) ∨ ∃ k, [V.bl b] = [.bl k] ∧ B k := .inr ⟨_, rfl, q⟩
theorem q_max2 {j : Int} {A : Int → Int → Prop} (q : A i j) : ∃ m n, [V.int i, V.int j] = [.int m, .int n] ∧ A m n := ⟨_, _, rfl, q⟩
theorem q_gSub {to ti : TE} {t : TSet} {σ : L2.St} {R : L2.St → Hp → Prop} (h : to σ H fun o H1 => ti σ H1 fun i H2 => t o i v H2 fun H3 => R σ H3) : gSub to ti t v σ H R := h
theorem q_setL {j : Nat} {R : Hp → Prop} (h : H a = some (.lst xs)) (e : ixN xs.length i = some j) (q : R (upd H a (.lst (xs.set j v)))) : rSetL (.ref a) (.int i) v H R := ⟨_, _, _, _, rfl, rfl, h, e, q⟩
end
theorem atI_of {α : Type} {xs : List α} {i : Int} {x : α} (h0 : 0 ≤ i) (h : xs[i.toNat]? = some x) : atI xs i = some x := by
  have e : i = ((i.toNat : Nat) : Int) := by omega
  rw [e]
  exact atI_nat h

/-! ### the law's pool of draws -/
structure Pool (H : Hp) (p : Addr) : Prop where
  ex : ∃ a b : Int, H p = some (.lst [.int a, .int b]) ∧ 0 ≤ a ∧ 0 ≤ b ∧ b < 2147483647
/-- all but what stands at p is as it was -/
def But (p : Addr) (H H' : Hp) : Prop := ∀ q o, q ≠ p → H q = some o → H' q = some o
theorem But.refl (p : Addr) (H : Hp) : But p H H := fun _ _ _ h => h
theorem But.trans {p : Addr} {H H1 H2 : Hp} (a : But p H H1) (b : But p H1 H2) : But p H H2 := fun q o n h => b q o n (a q o n h)
theorem But.of_same {p : Addr} {H H' : Hp} (h : Same H H') : But p H H' := fun q o _ e => h q o e
theorem But.upd {p : Addr} {H : Hp} {o : HO} : But p H (upd H p o) := fun q u n e => by rw [upd_ne n]; exact e
theorem But.new {p q : Addr} {H : Hp} {o : HO} (h : H q = none) : But p H (L2.upd H q o) := fun c u _ e => by rw [upd_ne (ne_of_none e h)]; exact e
theorem Same.new {q : Addr} {H : Hp} {o : HO} (h : H q = none) : Same H (upd H q o) := fun c u e => by rw [upd_ne (ne_of_none e h)]; exact e
theorem Pool.same {H H' : Hp} {p : Addr} (P : Pool H p) (e : Same H H') : Pool H' p := by
  obtain ⟨a, b, h, r⟩ := P.ex
  exact ⟨a, b, e _ _ h, r⟩
theorem Pool.there {H : Hp} {p : Addr} (P : Pool H p) : ∃ o, H p = some o := by
  obtain ⟨a, b, h, r⟩ := P.ex
  exact ⟨_, h⟩
def isMemT : List V → Bool
  | [k] => isWordV "nothing" k
  | [k, m] => (isWordV "times" k || isWordV "sum" k) && isIntTo 9 m
  | _ => false
def isMemH (H : Hp) : V → Bool
  | .ref a => match H a with
    | some (.tup xs) => isMemT xs
    | _ => false
  | _ => false
theorem isMemH_tup {H : Hp} {a : Addr} {xs : List V} (h : H a = some (.tup xs)) : isMemH H (.ref a) = isMemT xs := by simp [isMemH, h]
theorem isMemH_no {H : Hp} {x : V} (ha : Any H x) (h : (kindOf H x == "tuple") = false) : isMemH H x = false := by
  cases ha with
  | tup e => simp [kindOf, e] at h
  | lst e => simp [isMemH, e]
  | dK e => simp [isMemH, e]
  | _ => rfl
theorem isMemT_len {xs : List V} (h : ¬ (1 ≤ (xs.length : Int) ∧ (xs.length : Int) ≤ 2)) : isMemT xs = false := by
  match xs, h with
  | [], _ => rfl
  | [_], h => simp at h
  | [_, _], h => simp at h
  | _ :: _ :: _ :: _, _ => rfl

theorem q_leS {a b : Str} {A : Str → Str → Prop} (q : A a b) : ∃ i j, V.str a = .str i ∧ V.str b = .str j ∧ A i j := ⟨_, _, rfl, rfl, q⟩
def sgn (c : Nat) : V := .str ⟨#[c]⟩
def isLet (c : Nat) : Bool := decide (97 ≤ c) && decide (c ≤ 122)
def letV : V → V
  | .str s => .bl (s.cps.toList.all isLet)
  | v => v
theorem letV_sgn (c : Nat) : letV (sgn c) = .bl (isLet c) := by simp [letV, sgn]
theorem lt1 (a b : Nat) : decide ((⟨#[a]⟩ : Str).cps.toList < (⟨#[b]⟩ : Str).cps.toList) = decide (a < b) := by
  have e : ((⟨#[a]⟩ : Str).cps.toList < (⟨#[b]⟩ : Str).cps.toList) ↔ a < b := by
    show [a] < [b] ↔ a < b
    rw [List.cons_lt_cons_iff]
    constructor
    · rintro (h | ⟨_, h⟩)
      · exact h
      · exact absurd h (List.lt_irrefl _)
    · exact .inl
  by_cases h : a < b
  · rw [decide_eq_true h, decide_eq_true (e.mpr h)]
  · rw [decide_eq_false h, decide_eq_false (fun z => h (e.mp z))]
theorem at_sgn {l : List Nat} {i : Nat} {x : V} (h : (l.map sgn)[i]? = some x) : ∃ c, x = sgn c ∧ l[i]? = some c := by
  rw [List.getElem?_map] at h
  cases e : l[i]? with
  | none => rw [e] at h; cases h
  | some c => rw [e] at h; exact ⟨c, (Option.some.inj h).symm, rfl⟩
theorem str_a : ("a" : Str) = ⟨#[97]⟩ := by decide +kernel
theorem str_z : ("z" : Str) = ⟨#[122]⟩ := by decide +kernel

theorem But.seq {K : PySem.W.Frag} {H H' : Hp} {p a : Addr} {xs : List V} (e : But p H H') (n : a ≠ p) (h : SqL K H a xs) : SqL K H' a xs := by
  rcases h with (h | ⟨o, h⟩) | h
  · exact .inl (.inl (e _ _ n h))
  · exact .inl (.inr ⟨o, e _ _ n h⟩)
  · exact .inr h
theorem But.seqT {K : PySem.W.Frag} {H H' : Hp} {p a : Addr} {xs : List V} (e : But p H H') (n : a ≠ p) (h : SqT K H a xs) : SqT K H' a xs := by
  rcases h with (h | ⟨o, h⟩) | h
  · exact .inl (.inl (e _ _ n h))
  · exact .inl (.inr ⟨o, e _ _ n h⟩)
  · exact .inr h

/-- what an expression hands on, said once: R of the value and the heap -/
theorem q_cut {te : TE} {σ : L2.St} {H : Hp} {Q : VK} (R : V → Hp → Prop) (h : ∀ Q' : VK, (∀ v H', R v H' → Q' v H') → te σ H Q') (k : ∀ v H', R v H' → Q v H') : te σ H Q := h Q k

/-! ### new objects, loops over what was just laid -/
theorem q_new {H : Hp} {n : Nat} {A : Addr → Prop} (hl : n ≤ sizeLine) (q : ∀ p, H p = none → A p) : n ≤ sizeLine ∧ ∀ p, H p = none → A p := ⟨hl, q⟩
theorem q_dnewK {σ : L2.St} {H : Hp} {Q : VK} (q : ∀ p, H p = none → Q (.ref p) (upd H p (.dK []))) : tDNewK σ H Q := q
theorem q_for {wi : TI} {g : TG} {tb : TS} {D : Ends} {σ : L2.St} {H : Hp} (h : wi σ H fun J H1 => ∃ W : Nat → Nat → L2.St → Hp → Prop, (∃ m, W 0 m σ H1) ∧ ∀ i m σ H, W i m σ H →
    (J.stop i H ∧ D.nx σ H) ∨ (J.go i H ∧ ∃ N : L2.St → Hp → Prop, (∀ σ' H', N σ' H' → ∃ m', m' < m ∧ W (i + 1) m' σ' H') ∧ ∀ x H', J.yld i H x H' → g x σ H' fun σ2 H2 => tb { D with nx := N, ct := N, bk := D.nx } σ2 H2)) : tFor wi g tb D σ H := h
theorem q_iList {K : PySem.W.Frag} {tl : TE} {σ : L2.St} {H : Hp} {R : It → Hp → Prop} (h : tl σ H fun x H1 => ∃ a, x = .ref a ∧ (∃ xs, SqL K H1 a xs) ∧ R (Itl K a) H1) : iList K tl σ H R := h
theorem q_iRng1 {ta : TA} {σ : L2.St} {H : Hp} {R : It → Hp → Prop} (h : ta σ H fun vs H1 => ∃ j : Int, vs = [.int j] ∧ -(2 ^ 62) ≤ j ∧ j < 2 ^ 62 ∧ R (Itr 0 j.toNat) H1) : iRng1 ta σ H R := h
theorem set_self {σ : L2.St} {j : Nat} {y : Option V} (h : σ[j]? = some y) : σ = σ.set j y := by
  refine List.ext_getElem? fun i => ?_
  rw [List.getElem?_set]
  by_cases e : j = i
  · subst e
    have hj := (List.getElem?_eq_some_iff.mp h).1
    rw [if_pos rfl, if_pos hj, h]
  · rw [if_neg e]
/-- a loop that only looks: each turn leaves the slots but its own, and what was tracked -/
theorem for_chk {K : PySem.W.Frag} {a : Addr} {xs : List V} {j : Nat} {tb : TS} {D : Ends} {σ : L2.St} {H : Hp} (hs : SqL K H a xs) (h0 : ∃ y, σ[j]? = some y)
    (hb : ∀ x ∈ xs, ∀ H' (N : L2.St → Hp → Prop), Same H H' → (∀ y' H'', Same H H'' → N (σ.set j y') H'') → tb { D with nx := N, ct := N, bk := D.nx } (σ.set j (some x)) H')
    (hd : ∀ y H', Same H H' → D.nx (σ.set j y) H') :
    ∃ W : Nat → Nat → L2.St → Hp → Prop, (∃ m, W 0 m σ H) ∧ ∀ i m σ H, W i m σ H →
      ((Itl K a).stop i H ∧ D.nx σ H) ∨ ((Itl K a).go i H ∧ ∃ N : L2.St → Hp → Prop, (∀ σ' H', N σ' H' → ∃ m', m' < m ∧ W (i + 1) m' σ' H') ∧ ∀ x H', (Itl K a).yld i H x H' → gName j x σ H' fun σ2 H2 => tb { D with nx := N, ct := N, bk := D.nx } σ2 H2) := by
  obtain ⟨y0, h0⟩ := h0
  refine for_list (K := K) (a := a) (xs := xs) (fun _ σ' H' => ∃ y, σ' = σ.set j y ∧ Same H H') ⟨y0, set_self h0, Same.refl H⟩ (fun i σ' H' _ ⟨_, _, e⟩ => e.seq hs) ?_ ?_
  · rintro i x σ' H' hx ⟨y, rfl, e⟩
    show tb _ ((σ.set j y).set j (some x)) H'
    rw [List.set_set]
    exact hb x (List.mem_of_getElem? hx) H' _ e fun y' H'' e' => ⟨y', rfl, e'⟩
  · rintro σ' H' ⟨y, rfl, e⟩
    exact hd y H' e
theorem Pool.but {H : Hp} {p q : Addr} {o : HO} (P : Pool H p) (h : H q = none) : Pool (upd H q o) p := P.same (Same.new h)

/-! ### names out of signs -/
theorem join_sgn (cs : List Nat) : (Txt.join ("" : Str) (cs.map fun c => (⟨#[c]⟩ : Str))).cps.toList = cs := by
  rw [TL.join_eq]
  have e : ("" : Str) = ⟨#[]⟩ := by decide +kernel
  rw [e]
  match cs with
  | [] => rfl
  | [c] => rfl
  | c :: d :: r =>
    have ih := join_sgn (d :: r)
    rw [TL.join_eq, e] at ih
    show ((⟨#[c]⟩ : Str) ++ ⟨#[]⟩ ++ Str.join ⟨#[]⟩ ((d :: r).map fun c => (⟨#[c]⟩ : Str))).cps.toList = _
    rw [tl_app, tl_app, ih]
    rfl
theorem isName_of {s : Str} (h1 : 1 ≤ s.length) (h8 : s.length ≤ 8) (h : ∀ c ∈ s.cps.toList, isLet c = true) : isNameS s = true := by
  unfold isNameS
  rw [decide_eq_true h1, decide_eq_true h8, Bool.true_and, Bool.true_and, List.all_eq_true]
  exact h
theorem isName_bad {s : Str} {c : Nat} (h : c ∈ s.cps.toList) (hc : isLet c = false) : isNameS s = false := by
  unfold isNameS
  have e : (s.cps.toList.all fun c => decide (97 ≤ c) && decide (c ≤ 122)) = false := by
    rw [List.all_eq_false]
    exact ⟨c, h, by show ¬ isLet c = true; rw [hc]; exact Bool.false_ne_true⟩
  rw [e, Bool.and_false]
theorem isName_long {s : Str} (h : 8 < s.length) : isNameS s = false := by
  unfold isNameS
  rw [decide_eq_false (show ¬ s.length ≤ 8 by omega), Bool.and_false, Bool.false_and]

theorem q_gName {i : Nat} {v : V} {σ : L2.St} {H : Hp} {R : L2.St → Hp → Prop} (h : R (σ.set i (some v)) H) : gName i v σ H R := h
theorem q_m1 {r : V → List V → Hp → VK → Prop} {to te : TE} {σ : L2.St} {H : Hp} {Q : VK} (h : to σ H fun x H1 => (∃ a, x = .str a) ∧ te σ H1 fun y H2 => r x [y] H2 Q) : tM1 r to te σ H Q := h
theorem q_strI {s : Str} {A : Prop} (h : A) : (∃ a, V.str s = .str a) ∧ A := ⟨⟨_, rfl⟩, h⟩
/-- a list comprehension: its walk, then the new list at D -/
theorem q_lc {wi : TI} {g : TG} {tt : TT} {te : TE} {vs : List Nat} {σ : L2.St} {H : Hp} {Q : VK}
    (h : wi σ H fun J H1 => ∀ D, H1 D = none → ∃ W : Nat → Nat → Hp → Prop, (∃ m, W 0 m (upd H1 D (.lst []))) ∧ ∀ i m H, W i m H → (J.stop i H ∧ Q (.ref D) H) ∨
      (J.go i H ∧ ∃ Nx : Hp → Prop, (∀ H', Nx H' → ∃ m', m' < m ∧ W (i + 1) m' H') ∧ ∀ x H', J.yld i H x H' → g x (wipe σ vs) H' fun σ2 H2 => wipe σ2 vs = wipe σ vs ∧ tt σ2 H2 fun b H3 => if b = true then
        te σ2 H3 fun y H4 => ∃ acc, H4 D = some (.lst acc) ∧ acc.length < sizeLine ∧ Nx (upd H4 D (.lst (acc ++ [y]))) else Nx H3)) : tLc wi g tt te vs σ H Q := h
theorem Same.but {H H1 H2 : Hp} {p : Addr} (e : Same H H1) (hp : H p = none) (b : But p H1 H2) : Same H H2 := fun c o h => b c o (fun z => by rw [z, hp] at h; cases h) (e c o h)

theorem Any.same {H H' : Hp} {v : V} (h : Any H v) (e : Same H H') : Any H' v := by
  cases h with
  | non => exact .non
  | bl b => exact .bl b
  | int i => exact .int i
  | str s => exact .str s
  | lst h => exact .lst (e _ _ h)
  | tup h => exact .tup (e _ _ h)
  | dK h => exact .dK (e _ _ h)
theorem Any.ref {H : Hp} {a : Addr} (h : Any H (.ref a)) : ∃ o, H a = some o := by
  cases h with
  | lst h => exact ⟨_, h⟩
  | tup h => exact ⟨_, h⟩
  | dK h => exact ⟨_, h⟩
/-- items of a tuple are looked at, too -/
def Any2 (H : Hp) (v : V) : Prop := Any H v ∧ ∀ a xs, v = .ref a → H a = some (.tup xs) → ∀ y ∈ xs, Any H y
theorem Any2.same {H H' : Hp} {v : V} (h : Any2 H v) (e : Same H H') : Any2 H' v := by
  refine ⟨h.1.same e, fun a xs ha hx y hy => ?_⟩
  subst ha
  obtain ⟨o, ho⟩ := h.1.ref
  have h1 := e _ _ ho
  rw [hx] at h1
  cases h1
  exact (h.2 a xs rfl ho y hy).same e
theorem Any2.flat {H : Hp} {v : V} (h : Any H v) (hr : ∀ a, v ≠ .ref a) : Any2 H v := ⟨h, fun a _ e => absurd e (hr a)⟩
theorem Any2.tup {H : Hp} {a : Addr} {xs : List V} (h : H a = some (.tup xs)) (hx : ∀ y ∈ xs, Any H y) : Any2 H (.ref a) := ⟨.tup h, fun b ys e hb => by cases e; rw [h] at hb; cases hb; exact hx⟩
theorem Any2.lst {H : Hp} {a : Addr} {xs : List V} (h : H a = some (.lst xs)) : Any2 H (.ref a) := ⟨.lst h, fun b ys e hb => by cases e; rw [h] at hb; cases hb⟩
theorem Any2.dK {H : Hp} {a : Addr} {xs : List (Key × V)} (h : H a = some (.dK xs)) : Any2 H (.ref a) := ⟨.dK h, fun b ys e hb => by cases e; rw [h] at hb; cases hb⟩
theorem isMemH_same {H H' : Hp} {v : V} (h : Any H v) (e : Same H H') : isMemH H' v = isMemH H v := by
  cases h with
  | lst h => simp [isMemH, h, e _ _ h]
  | tup h => simp [isMemH, h, e _ _ h]
  | dK h => simp [isMemH, h, e _ _ h]
  | _ => rfl
theorem isMemH_lst {H : Hp} {a : Addr} {xs : List V} (h : H a = some (.lst xs)) : isMemH H (.ref a) = false := by simp [isMemH, h]
theorem isMemH_dK {H : Hp} {a : Addr} {xs : List (Key × V)} (h : H a = some (.dK xs)) : isMemH H (.ref a) = false := by simp [isMemH, h]
theorem sum_ones (cs : List Nat) : ((cs.map fun c => (⟨#[c]⟩ : Str)).map (·.length)).sum = cs.length := by
  induction cs with
  | nil => rfl
  | cons c r ih => rw [List.map_cons, List.map_cons, List.sum_cons, ih, List.length_cons]; show 1 + _ = _; omega

/-- the same, with what is true of each item, and stays so -/
theorem for_chkR {K : PySem.W.Frag} {a : Addr} {xs : List V} {j : Nat} {tb : TS} {D : Ends} {σ : L2.St} {H : Hp} (hs : SqL K H a xs) (h0 : ∃ y, σ[j]? = some y) (R : Hp → V → Prop) (mono : ∀ v H', R H v → Same H H' → R H' v) (hR : ∀ v ∈ xs, R H v)
    (hb : ∀ x H' (N : L2.St → Hp → Prop), R H' x → Same H H' → (∀ y' H'', Same H H'' → N (σ.set j y') H'') → tb { D with nx := N, ct := N, bk := D.nx } (σ.set j (some x)) H')
    (hd : ∀ y H', Same H H' → D.nx (σ.set j y) H') :
    ∃ W : Nat → Nat → L2.St → Hp → Prop, (∃ m, W 0 m σ H) ∧ ∀ i m σ H, W i m σ H → ((Itl K a).stop i H ∧ D.nx σ H) ∨
      ((Itl K a).go i H ∧ ∃ N : L2.St → Hp → Prop, (∀ σ' H', N σ' H' → ∃ m', m' < m ∧ W (i + 1) m' σ' H') ∧ ∀ x H', (Itl K a).yld i H x H' → gName j x σ H' fun σ2 H2 => tb { D with nx := N, ct := N, bk := D.nx } σ2 H2) :=
  for_chk hs h0 (fun x hx H' N e hN => hb x H' N (mono x H' (hR x hx) e) e hN) hd

theorem at_new {H : Hp} {q c : Addr} {o u : HO} (h : H q = none) (e : H c = some u) : upd H q o c = some u := Same.new h c u e
theorem at_same {H H' : Hp} {c : Addr} {u : HO} (h : Same H H') (e : H c = some u) : H' c = some u := h c u e
end Kx

namespace Kx
open PySem PySem.Spec L2
/-! ### a tuple of the module, an own class's in, not in -/
def KTup (K : PySem.W.Frag) (a : Addr) (xs : List V) : Prop :=
  ∃ (o : Obj) (its : Array Value) (n : Nat), K.lookup a = some o ∧ o.cls = .type "tuple" ∧ o.data = .seq its n ∧ its.size ≤ sizeLine ∧ Vals xs its.toList
theorem KTup.sq {K : PySem.W.Frag} {H : Hp} {a : Addr} {xs : List V} (h : KTup K a xs) : SqT K H a xs := .inr h
section
variable {X : Cx} {CX : CXT} {k : Nat} {C f : Addr} {fd : FuncData} {ps : List Str} {sp : Sp} {E : XK}
def rInOwn (C : Addr) (sp : Sp) (E : XK) (g : Bool → Bool) : R2 := fun x y H Q => ∃ a dx fs, y = .ref a ∧ H a = some (.ins C dx fs) ∧ sp [y, x] H (fun v H' => ∃ b, v = .bl b ∧ Q (.bl (g b)) H') E
theorem op_in_own (F : FnOk X.prog X.w X.K X.mg X.base CX k f fd ps sp) (hr : Room k X.A) (m : Meth X.K C "__contains__" f) (hb : Binds X.K fd ps []) (hx : Passes CX X E) :
    OpR X (compareOp .In) (rInOwn C sp E id) := by
  intro pins s σ H x y v u Q I rx ry h
  obtain ⟨a, dx, fs, rfl, ha, q⟩ := h
  cases ry
  obtain ⟨mA, J, _⟩ := ins_get I.hok ha
  obtain ⟨od, J, _⟩ := J.look
  obtain ⟨m', hF⟩ := I.fr
  refine PySem.W.in_K hF I.ok.mod.kin J m.at_ m.fn (wpAny_mono (run_fn (us := [.ref a, v]) (vs := [.ref a, x]) F hr hb .nil hx I (.cons rfl (.cons rx .nil)) q) ?_ fun _ _ z => z)
  rintro r s' ⟨z, H', I', rz, b, rfl, qb⟩
  cases rz
  exact wpAny_truthy_bool ⟨.bl b, H', I', rfl, qb⟩
theorem op_notIn_own (F : FnOk X.prog X.w X.K X.mg X.base CX k f fd ps sp) (hr : Room k X.A) (m : Meth X.K C "__contains__" f) (hb : Binds X.K fd ps []) (hx : Passes CX X E) :
    OpR X (compareOp .NotIn) (rInOwn C sp E not) := by
  intro pins s σ H x y v u Q I rx ry h
  obtain ⟨a, dx, fs, rfl, ha, q⟩ := h
  cases ry
  obtain ⟨mA, J, _⟩ := ins_get I.hok ha
  obtain ⟨od, J, _⟩ := J.look
  obtain ⟨m', hF⟩ := I.fr
  refine PySem.W.notIn_K hF I.ok.mod.kin J m.at_ m.fn (wpAny_mono (run_fn (us := [.ref a, v]) (vs := [.ref a, x]) F hr hb .nil hx I (.cons rfl (.cons rx .nil)) q) ?_ fun _ _ z => z)
  rintro r s' ⟨z, H', I', rz, b, rfl, qb⟩
  cases rz
  exact wpAny_truthy_bool ⟨.bl (!b), H', I', rfl, qb⟩
end
end Kx
namespace Kx
open PySem PySem.Spec L2
theorem kindOf_same {H H' : Hp} {x : V} (h : Any H x) (e : Same H H') : kindOf H' x = kindOf H x := by
  cases h with
  | lst h => simp [kindOf, h, e _ _ h]
  | tup h => simp [kindOf, h, e _ _ h]
  | dK h => simp [kindOf, h, e _ _ h]
  | _ => rfl
theorem kit_lt {K : PySem.W.Frag} {a : String} (h : a ∈ ["NoneType", "bool", "int", "str", "list", "tuple", "dict"]) : PySem.W.kitAny K (.type a) [.type "list", .type "tuple"] = some (a == "list" || a == "tuple") := by
  refine kitAny_cons (b := a == "list") (kit_ty (kit_list a h)) (fun hb => ?_) (fun hb => by rw [hb]; rfl)
  refine kitAny_cons (b := a == "tuple") (kit_ty (kit_tuple a h)) (fun hc => ?_) (fun hc => by rw [hb, hc]; rfl)
  rw [hb, hc]
  rfl
/-- an instance of an own class, asked for by isinstance -/
theorem q_isOwn {K : PySem.W.Frag} {H : Hp} {a C dx : Addr} {fs : List (Str × V)} {Q : VK} (e : H a = some (.ins C dx fs)) (cl : Cls K C) (ha : PySem.W.findIn K (.ref C) "__class__" = some (some (.builtin "object.__class__")))
    (hn : PySem.W.specialIn K (.builtin "object.__class__") "__get__" = some (some (.builtin "getset_descriptor.__get__"))) (htk : PySem.W.takesIn K (.builtin "object.__class__") = some true) (hm : PySem.W.mroIn K C (.type "object") = some true)
    (hk : PySem.W.kitOne K (.ref C) (.ref C) = some true) (q : Q (.bl true) H) : rIsi K [.ref a, .ref C] H Q := ⟨.ref a, .ref C, _, _, _, rfl, .own C, .base (.ins e cl ha hn htk hm), hk, q⟩
end Kx
namespace Kx
theorem hu65_of {A : PySem.Around} {k : Nat} (hr : L2.Room k A) : A.units + 65 < PySem.cLine := by have := hr.un; omega
end Kx
/-! ### rules with the written part said by name (as a comprehension's element wants them) -/
namespace Kx
open PySem PySem.Spec L2
section
variable {X : Cx} {K : PySem.W.Frag}
theorem pe_fldK (hK : X.K = K) {e : Expr} {ta : TE} {f : Str} {pos : Pos} (he : PE X e ta) (hb : attributeBase e f X.env (eval e X.env) = eval e X.env) : PE X (.Attribute e f pos) (tFld K ta f) := by subst hK; exact pe_fld he hb
theorem pg_tupK (hK : X.K = K) (n : Nat) {es : List Expr} {k : Nat} {t : TGs} {pos : Pos} (hc : X.calm = true) (h : PGs X es t) (hn : (assignEach es X.env).length = n := by rfl) (hst : (assignEach es X.env).findIdx? (·.1) = none := by rfl) : PG X (.Tuple es k pos) (gTup K n t) := by
  subst hK; exact pg_tup hc h hn hst
theorem ix_listK (hK : X.K = K) : IxR X (rIxL K) := by subst hK; exact ix_list
theorem ix_tupK (hK : X.K = K) : IxR X (rIxT K) := by subst hK; exact ix_tup
theorem ix_seqK (hK : X.K = K) : IxR X (rIx K) := by subst hK; exact ix_seq
theorem sl_listK (hK : X.K = K) : SlR X (rSlL K) := by subst hK; exact sl_list
theorem op_in_seqK (hK : X.K = K) : OpR X (compareOp .In) (rIn K false) := by subst hK; exact op_in_seq
theorem op_notIn_seqK (hK : X.K = K) : OpR X (compareOp .NotIn) (rIn K true) := by subst hK; exact op_notIn_seq
theorem op_eqDK (hK : X.K = K) (hu : X.A.units + 64 < cLine) : OpR X (compareOp .Eq) (rEqD K) := by subst hK; exact op_eqD hu
theorem op_neDK (hK : X.K = K) (hu : X.A.units + 64 < cLine) : OpR X (compareOp .NotEq) (rNeD K) := by subst hK; exact op_neD hu
theorem op_inDK (hK : X.K = K) (hu : X.A.units + 65 < cLine) : OpR X (compareOp .In) (rInD K) := by subst hK; exact op_inD hu
theorem op_notInDK (hK : X.K = K) (hu : X.A.units + 65 < cLine) : OpR X (compareOp .NotIn) (rNotInD K) := by subst hK; exact op_notInD hu
theorem call_isiK' (hK : X.K = K) : CallR X (.builtin "isinstance") (rIsi K) := by subst hK; exact call_isi
theorem call_isiTK (hK : X.K = K) : CallR X (.builtin "isinstance") (rIsiT K) := by subst hK; exact call_isiT
theorem cr_allK (hK : X.K = K) (hc : X.calm = true) : CallR X (.builtin "all") (rAll K) := by subst hK; exact cr_all hc
theorem cr_anyK (hK : X.K = K) (hc : X.calm = true) : CallR X (.builtin "any") (rAny K) := by subst hK; exact cr_any hc
theorem cr_sortedSK (hK : X.K = K) : CallR X (.builtin "sorted") (rSortedS K) := by subst hK; exact cr_sortedS
def rLen (K : PySem.W.Frag) : List V → Hp → VK → Prop := fun xs H Q => ∃ x n, xs = [x] ∧ LenV K x H n ∧ Q (.int (n : Nat)) H
theorem call_lenK (hK : X.K = K) : CallR X (.builtin "len") (rLen K) := by subst hK; exact call_len
def rListOf (K : PySem.W.Frag) : List V → Hp → VK → Prop := fun xs H Q => ∃ p ys, xs = [.ref p] ∧ (SqL K H p ys ∨ SqT K H p ys) ∧ ∀ l, H l = none → Q (.ref l) (upd H l (.lst ys))
theorem call_list_ofK (hK : X.K = K) : CallR X (.type "list") (rListOf K) := by subst hK; exact call_list_of
def rTupOf (K : PySem.W.Frag) : List V → Hp → VK → Prop := fun xs H Q => ∃ p ys, xs = [.ref p] ∧ ((SqL K H p ys ∧ ∀ l, H l = none → Q (.ref l) (upd H l (.tup ys))) ∨ (SqT K H p ys ∧ Q (.ref p) H))
theorem call_tuple_ofK (hK : X.K = K) : CallR X (.type "tuple") (rTupOf K) := by subst hK; exact call_tuple_of
theorem pi_listK (hK : X.K = K) {tg l : Expr} {tl : TE} (hl : PE X l tl) : PI X tg l (iList K tl) := by subst hK; exact pi_list hl
theorem pi_tupK (hK : X.K = K) {tg l : Expr} {tl : TE} (hl : PE X l tl) : PI X tg l (iTup K tl) := by subst hK; exact pi_tup hl
theorem q_lenE {xs : List V} {H : Hp} {Q : VK} (h : ∃ x n, xs = [x] ∧ LenV K x H n ∧ Q (.int (n : Nat)) H) : rLen K xs H Q := h
theorem q_iTup {tl : TE} {σ : L2.St} {H : Hp} {R : It → Hp → Prop} (h : tl σ H fun x H1 => ∃ a, x = .ref a ∧ (∃ xs, SqT K H1 a xs) ∧ R (Itt K a) H1) : iTup K tl σ H R := h
theorem q_gTup {n : Nat} {t : TGs} {a : Addr} {xs : List V} {σ : L2.St} {H : Hp} {R : L2.St → Hp → Prop} (h : SqT K H a xs) (hl : xs.length = n) (q : t xs σ H R) : gTup K n t (.ref a) σ H R := ⟨a, xs, rfl, h, hl, q⟩
theorem q_gCons {t : TG} {u : TGs} {v : V} {vs : List V} {σ : L2.St} {H : Hp} {R : L2.St → Hp → Prop} (h : t v σ H fun σ' H' => u vs σ' H' R) : gCons t u (v :: vs) σ H R := ⟨v, vs, rfl, h⟩
theorem q_gNil {σ : L2.St} {H : Hp} {R : L2.St → Hp → Prop} (h : R σ H) : gNil [] σ H R := ⟨rfl, h⟩
end
end Kx

namespace Kx
open PySem PySem.Spec L2
/-! ### data of tuples, which never change -/
def TupKeep (H H' : Hp) : Prop := ∀ q xs, H q = some (.tup xs) → H' q = some (.tup xs)
theorem TupKeep.refl (H : Hp) : TupKeep H H := fun _ _ h => h
theorem TupKeep.trans {H H1 H2 : Hp} (a : TupKeep H H1) (b : TupKeep H1 H2) : TupKeep H H2 := fun q xs h => b q xs (a q xs h)
theorem TupKeep.same {H H' : Hp} (e : Same H H') : TupKeep H H' := fun q xs h => e q _ h
theorem TupKeep.but {p : Addr} {H H' : Hp} (P : Pool H p) (e : But p H H') : TupKeep H H' := fun q xs h => e q _ (fun z => by
  obtain ⟨a, b, hp, _⟩ := P.ex
  rw [z, hp] at h
  cases h) h
theorem TupKeep.lst {H : Hp} {a : Addr} {xs : List V} {o : HO} (h : H a = some (.lst xs)) : TupKeep H (upd H a o) := fun q ys e => by
  rw [upd_ne (ne_of e h (fun z => nomatch z))]
  exact e
theorem TupKeep.new {H : Hp} {a : Addr} {o : HO} (h : H a = none) : TupKeep H (upd H a o) := .same (Same.new h)
mutual
inductive Td (H : Hp) : V → PyData → Prop
  | non : Td H .non .none
  | bl (b : Bool) : Td H (.bl b) (.bool b)
  | int (i : Int) : Td H (.int i) (.int i)
  | str (x : Str) : Td H (.str x) (.str x)
  | tup {a : Addr} {xs : List V} {ds : List PyData} : H a = some (.tup xs) → TdAll H xs ds → Td H (.ref a) (.tuple ds)
inductive TdAll (H : Hp) : List V → List PyData → Prop
  | nil : TdAll H [] []
  | cons {v : V} {vs : List V} {d : PyData} {ds : List PyData} : Td H v d → TdAll H vs ds → TdAll H (v :: vs) (d :: ds)
end
mutual
theorem Td.keep {H H' : Hp} (e : TupKeep H H') : ∀ (d : PyData) (v : V), Td H v d → Td H' v d
  | .none, _, .non => .non
  | .bool b, _, .bl _ => .bl b
  | .int i, _, .int _ => .int i
  | .str x, _, .str _ => .str x
  | .tuple ds, _, .tup h hs => .tup (e _ _ h) (TdAll.keep e ds _ hs)
theorem TdAll.keep {H H' : Hp} (e : TupKeep H H') : ∀ (ds : List PyData) (vs : List V), TdAll H vs ds → TdAll H' vs ds
  | [], _, .nil => .nil
  | d :: ds, _, .cons h hs => .cons (Td.keep e d _ h) (TdAll.keep e ds _ hs)
end
mutual
theorem Td.dp {K : PySem.W.Frag} {H : Hp} : ∀ (d : PyData) (v : V), Td H v d → Dp K H v d
  | .none, _, .non => .non
  | .bool b, _, .bl _ => .bl b
  | .int i, _, .int _ => .int i
  | .str x, _, .str _ => .str x
  | .tuple ds, _, .tup h hs => .tup (SqT.of h) (TdAll.dp ds _ hs)
theorem TdAll.dp {K : PySem.W.Frag} {H : Hp} : ∀ (ds : List PyData) (vs : List V), TdAll H vs ds → DpAll K H vs ds
  | [], _, .nil => .nil
  | d :: ds, _, .cons h hs => .cons (Td.dp d _ h) (TdAll.dp ds _ hs)
end
theorem TdAll.len {H : Hp} : ∀ {vs : List V} {ds : List PyData}, TdAll H vs ds → vs.length = ds.length
  | _, _, .nil => rfl
  | _, _, .cons _ hs => congrArg (· + 1) (TdAll.len hs)
theorem TdAll.get {H : Hp} : ∀ {vs : List V} {ds : List PyData}, TdAll H vs ds → ∀ {i : Nat} {v : V}, vs[i]? = some v → ∃ d, ds[i]? = some d ∧ Td H v d
  | _, _, .cons h _, 0, v, e => by simp at e; subst e; exact ⟨_, by simp, h⟩
  | _, _, .cons _ hs, i + 1, v, e => by
    obtain ⟨d, h1, h2⟩ := TdAll.get hs (i := i) (v := v) (by simpa using e)
    exact ⟨d, by simpa using h1, h2⟩
theorem TdAll.app {H : Hp} : ∀ {vs ws : List V} {ds es : List PyData}, TdAll H vs ds → TdAll H ws es → TdAll H (vs ++ ws) (ds ++ es)
  | _, _, _, _, .nil, b => b
  | _, _, _, _, .cons h hs, b => .cons h (TdAll.app hs b)
theorem TdAll.one {H : Hp} {v : V} {d : PyData} (h : Td H v d) : TdAll H [v] [d] := .cons h .nil
theorem TdAll.strs {H : Hp} : ∀ ns : List Str, TdAll H (ns.map V.str) (ns.map PyData.str)
  | [] => .nil
  | _ :: r => .cons (.str _) (TdAll.strs r)
/-- a list of such data -/
def LstD (H : Hp) (a : Addr) (ds : List PyData) : Prop := ∃ xs, H a = some (.lst xs) ∧ TdAll H xs ds
theorem LstD.dp {K : PySem.W.Frag} {H : Hp} {a : Addr} {ds : List PyData} (h : LstD H a ds) : Dp K H (.ref a) (.list ds) := by
  obtain ⟨xs, e, hs⟩ := h
  exact .lst (SqL.of e) (TdAll.dp ds _ hs)
theorem LstD.same {H H' : Hp} {a : Addr} {ds : List PyData} (h : LstD H a ds) (e : Same H H') : LstD H' a ds := by
  obtain ⟨xs, q, hs⟩ := h
  exact ⟨xs, e _ _ q, hs.keep (.same e)⟩
theorem LstD.but {H H' : Hp} {a p : Addr} {ds : List PyData} (h : LstD H a ds) (P : Pool H p) (n : a ≠ p) (e : But p H H') : LstD H' a ds := by
  obtain ⟨xs, q, hs⟩ := h
  exact ⟨xs, e _ _ n q, hs.keep (.but P e)⟩
/-- what is no list stands when draws are made -/
theorem But.keep {H H' : Hp} {a p : Addr} {o : HO} (P : Pool H p) (e : But p H H') (h : H a = some o) (ho : ∀ xs, o ≠ .lst xs) : H' a = some o := e a o (fun z => by
  obtain ⟨x, y, hp, _⟩ := P.ex
  rw [z, hp] at h
  exact ho _ (Option.some.inj h).symm) h

/-! ### fields -/
theorem lookup_hit {k : Str} {v : V} {r : List (Str × V)} : List.lookup k ((k, v) :: r) = some v := by simp [List.lookup]
theorem lookup_miss {k k' : Str} {v : V} {r : List (Str × V)} (h : k ≠ k') : List.lookup k ((k', v) :: r) = List.lookup k r := by
  have e : (k == k') = false := by simpa using h
  simp [List.lookup, e]
theorem putF_nil {f : Str} {v : V} : putF f v [] = [(f, v)] := rfl
theorem putF_ne {f g : Str} {v w : V} {r : List (Str × V)} (h : g ≠ f) : putF f v ((g, w) :: r) = (g, w) :: putF f v r := by
  show (if g = f then _ else _) = _
  rw [if_neg h]
section
variable {K : PySem.W.Frag} {σ : L2.St} {H : Hp} {a C dx : Addr} {fs : List (Str × V)} {f : Str} {v : V} {Q : VK} {ta tv : TE} {D : Ends}
theorem q_fldE (h : ta σ H fun x H1 => ∃ a C dx fs v, x = .ref a ∧ H1 a = some (.ins C dx fs) ∧ Cls K C ∧ NoAttr K C f ∧ fs.lookup f = some v ∧ Q v H1) : tFld K ta f σ H Q := h
theorem q_fld {A : V → Prop} (h : H a = some (.ins C dx fs)) (c : Cls K C) (n : NoAttr K C f) (l : fs.lookup f = some v) (q : A v) : ∃ a' C dx fs v, V.ref a = .ref a' ∧ H a' = some (.ins C dx fs) ∧ Cls K C ∧ NoAttr K C f ∧ fs.lookup f = some v ∧ A v := ⟨_, _, _, _, _, rfl, h, c, n, l, q⟩
theorem q_sfldE (h : tv σ H fun y H1 => ta σ H1 fun x H2 => ∃ a C dx fs, x = .ref a ∧ H2 a = some (.ins C dx fs) ∧ Cls K C ∧ NoAttr K C f ∧ fs.length < 1000 ∧ D.nx σ (upd H2 a (.ins C dx (putF f y fs)))) : sFld K ta tv f D σ H := h
theorem q_sfld {A : Addr → Addr → Addr → List (Str × V) → Prop} (h : H a = some (.ins C dx fs)) (c : Cls K C) (n : NoAttr K C f) (l : fs.length < 1000) (q : A a C dx fs) : ∃ a' C dx fs, V.ref a = .ref a' ∧ H a' = some (.ins C dx fs) ∧ Cls K C ∧ NoAttr K C f ∧ fs.length < 1000 ∧ A a' C dx fs := ⟨_, _, _, _, rfl, h, c, n, l, q⟩
end

theorem kit_self {K : PySem.W.Frag} {C : Addr} : PySem.W.kitOne K (.ref C) (.ref C) = some true := by
  unfold PySem.W.kitOne
  rw [if_pos (beq_self_eq_true _)]
/-! ### towns as data -/
structure TillD where
  name : Str
  limit : Int
  heeds : Bool
inductive MemD
  | nothing
  | times (n : Int)
  | sum (n : Int)
structure ModelD where
  tills : List TillD
  links : List (Str × Str)
  money : Int
  memory : MemD
  tops : Int
  numbered : Bool
def tillP (t : TillD) : PyData := .tuple [.str t.name, .int t.limit, .bool t.heeds]
def linkP (l : Str × Str) : PyData := .tuple [.str l.1, .str l.2]
def memP : MemD → PyData
  | .nothing => .tuple [.str "nothing"]
  | .times n => .tuple [.str "times", .int n]
  | .sum n => .tuple [.str "sum", .int n]
def ModelD.names (M : ModelD) : List Str := M.tills.map (·.name)
/-- the law's dict of a town -/
def modelK (tl ll : Addr) (money : Int) (mm : Addr) (tops : Int) (numbered : Bool) : List (Key × V) :=
  [(.inr "tills", .ref tl), (.inr "links", .ref ll), (.inr "money", .int money), (.inr "memory", .ref mm), (.inr "tops", .int tops), (.inr "numbered", .bl numbered)]
structure ModelAt (H : Hp) (m : Addr) (M : ModelD) (tl ll mm : Addr) : Prop where
  d : H m = some (.dK (modelK tl ll M.money mm M.tops M.numbered))
  tills : LstD H tl (M.tills.map tillP)
  links : LstD H ll (M.links.map linkP)
  mem : Td H (.ref mm) (memP M.memory)
theorem ModelAt.same {H H' : Hp} {m tl ll mm : Addr} {M : ModelD} (h : ModelAt H m M tl ll mm) (e : Same H H') : ModelAt H' m M tl ll mm := ⟨e _ _ h.d, h.tills.same e, h.links.same e, h.mem.keep (.same e) _ _⟩
/-- what may be in a town -/
structure Good (M : ModelD) : Prop where
  t1 : 1 ≤ M.tills.length
  t4 : M.tills.length ≤ 4
  nd : M.names.Nodup
  nm : ∀ t ∈ M.tills, isNameS t.name = true
  lm : ∀ t ∈ M.tills, 0 ≤ t.limit ∧ t.limit ≤ 9
  lk : ∀ l ∈ M.links, l.1 ∈ M.names ∧ l.2 ∈ M.names ∧ l.1.cps.toList < l.2.cps.toList
  ln : M.links.Nodup
  mo : 0 ≤ M.money ∧ M.money ≤ 9
  me : match M.memory with
    | .nothing => True
    | .times n => 0 ≤ n ∧ n ≤ 9
    | .sum n => 0 ≤ n ∧ n ≤ 9
  tp : 0 ≤ M.tops ∧ M.tops ≤ 5
def tillF (t : TillD) : List (Str × V) := [("name", .str t.name), ("limit", .int t.limit), ("heeds", .bl t.heeds)]
def TillAt (c : Addr) (H : Hp) (a : Addr) (t : TillD) : Prop := ∃ dx, H a = some (.ins c dx (tillF t))
theorem TillAt.same {c a : Addr} {H H' : Hp} {t : TillD} (h : TillAt c H a t) (e : Same H H') : TillAt c H' a t := let ⟨dx, h⟩ := h; ⟨dx, e _ _ h⟩
end Kx
namespace Kx
open PySem PySem.Spec L2
theorem isName_len {s : Str} (h : isNameS s = true) : s.length ≤ 8 := by
  unfold isNameS at h
  rw [Bool.and_eq_true, Bool.and_eq_true] at h
  exact of_decide_eq_true h.1.2
end Kx
namespace Kx
open PySem PySem.Spec L2
theorem putF_lt {f : Str} {v : V} : ∀ {fs : List (Str × V)} {n : Nat}, fs.length < n → (putF f v fs).length < n + 1
  | [], n, h => by show 1 < n + 1; exact Nat.succ_lt_succ h
  | (g, w) :: r, n, h => by
    show (if g = f then (g, v) :: r else (g, w) :: putF f v r).length < n + 1
    split
    · exact Nat.lt_succ_of_lt h
    · match n, h with
      | n + 1, h => exact Nat.succ_lt_succ (putF_lt (Nat.lt_of_succ_lt_succ h))
end Kx
namespace Kx
open PySem PySem.Spec L2
/-- two lists, item by item -/
inductive All2 {α β : Type} (R : α → β → Prop) : List α → List β → Prop
  | nil : All2 R [] []
  | cons {a : α} {b : β} {as : List α} {bs : List β} : R a b → All2 R as bs → All2 R (a :: as) (b :: bs)
theorem All2.length_eq {α β : Type} {R : α → β → Prop} : ∀ {as : List α} {bs : List β}, All2 R as bs → as.length = bs.length
  | _, _, .nil => rfl
  | _, _, .cons _ h => congrArg (· + 1) h.length_eq
theorem All2.get {α β : Type} {R : α → β → Prop} : ∀ {as : List α} {bs : List β}, All2 R as bs → ∀ {i : Nat} {a : α}, as[i]? = some a → ∃ b, bs[i]? = some b ∧ R a b
  | _, _, .cons h _, 0, a, e => by simp at e; subst e; exact ⟨_, by simp, h⟩
  | _, _, .cons _ h, i + 1, a, e => by
    obtain ⟨b, h1, h2⟩ := h.get (i := i) (a := a) (by simpa using e)
    exact ⟨b, by simpa using h1, h2⟩
theorem All2.imp {α β : Type} {R S : α → β → Prop} (f : ∀ a b, R a b → S a b) : ∀ {as : List α} {bs : List β}, All2 R as bs → All2 S as bs
  | _, _, .nil => .nil
  | _, _, .cons h r => .cons (f _ _ h) (r.imp f)
theorem All2.snoc {α β : Type} {R : α → β → Prop} : ∀ {as : List α} {bs : List β} {a : α} {b : β}, All2 R as bs → R a b → All2 R (as ++ [a]) (bs ++ [b])
  | _, _, _, _, .nil, h => .cons h .nil
  | _, _, _, _, .cons h r, q => .cons h (r.snoc q)
/-- the links of a town, ascending -/
def ascL (ord : List Str) (links : List (Str × Str)) : List (Str × Str) := ord.flatMap fun a => (ord.map fun b => (a, b)).filter fun l => links.contains l
structure TownAt (cT cC : Addr) (H : Hp) (a : Addr) (M : ModelD) : Prop where
  good : Good M
  ex : ∃ (dx tt bn lk mm : Addr) (rs : List V),
    H a = some (.ins cT dx [("_tills", .ref tt), ("_by_name", .ref bn), ("links", .ref lk), ("money", .int M.money), ("memory", .ref mm), ("tops", .int M.tops), ("numbered", .bl M.numbered)]) ∧
    H tt = some (.tup rs) ∧ All2 (fun v t => ∃ x, v = V.ref x ∧ TillAt cC H x t) rs M.tills ∧
    H bn = some (.dK ((M.names.zip rs).map fun p => (Sum.inr p.1, p.2))) ∧ Td H (.ref lk) (.tuple (M.links.map linkP)) ∧ Td H (.ref mm) (memP M.memory)
theorem lc_idx {J : It} {n : Nat} {G : Hp → Prop} {Y : Nat → Hp → V → Hp → Prop} (w : Walk J n G Y) {j : Nat} {te : TE} {σ : L2.St} {H1 : Hp} {D : Addr} {Qd : Hp → Prop} (xs ys : List V) (hn : n = xs.length) (hl : xs.length = ys.length) (hN : n < sizeLine)
    (hG : ∀ o, G (upd H1 D o)) (hY : ∀ i H x H', Y i H x H' → H' = H ∧ xs[i]? = some x)
    (he : ∀ (i : Nat) (x y : V) (o : HO) (Q : VK), xs[i]? = some x → ys[i]? = some y → Q y (upd H1 D o) → te ((wipe σ [j]).set j (some x)) (upd H1 D o) Q) (hd : Qd (upd H1 D (.lst ys))) :
    ∃ W : Nat → Nat → Hp → Prop, (∃ m, W 0 m (upd H1 D (.lst []))) ∧ ∀ i m H, W i m H → (J.stop i H ∧ Qd H) ∨ (J.go i H ∧ ∃ Nx : Hp → Prop, (∀ H', Nx H' → ∃ m', m' < m ∧ W (i + 1) m' H') ∧
      ∀ x H', J.yld i H x H' → gName j x (wipe σ [j]) H' fun σ2 H2 => wipe σ2 [j] = wipe σ [j] ∧ tYes σ2 H2 fun b H3 => if b = true then te σ2 H3 fun y H4 => ∃ acc, H4 D = some (.lst acc) ∧ acc.length < sizeLine ∧ Nx (upd H4 D (.lst (acc ++ [y]))) else Nx H3) := by
  refine lc_it w (fun i H => H = upd H1 D (.lst (ys.take i))) rfl (fun i H _ e => by rw [e]; exact hG _) (fun i x H H' hi e y => ?_) (fun H e => by rw [e, hn, hl, List.take_length]; exact hd)
  obtain ⟨e2, hx⟩ := hY i H x H' y
  subst e2
  subst e
  refine ⟨wipe1 σ j (some x), ?_⟩
  refine q_yes ?_
  refine iteT ?_
  have hlt : i < ys.length := by omega
  have hy : ys[i]? = some ys[i] := List.getElem?_eq_getElem hlt
  refine he i x _ _ _ hx hy ⟨ys.take i, upd_same, ?_, ?_⟩
  · rw [List.length_take]; omega
  · rw [upd_upd, List.take_add_one, hy, Option.toList_some]
end Kx
namespace Kx
open PySem PySem.Spec L2
theorem q_dgetE {td ty : TE} {σ : L2.St} {H : Hp} {Q : VK} (h : td σ H fun x H1 => ty σ H1 fun y H2 => ∃ a v, x = .ref a ∧ DGet H2 a y (some v) ∧ Q v H2) : tDGet td ty σ H Q := h
theorem q_dgetK {H : Hp} {a : Addr} {kvs : List (Key × V)} {k : Key} {v : V} {A : V → Prop} (h : H a = some (.dK kvs)) (e : valV kvs k = some v) (q : A v) : ∃ a' v, V.ref a = .ref a' ∧ DGet H a' (kV k) (some v) ∧ A v := ⟨a, v, rfl, by rw [← e]; exact DGet.k h, q⟩
theorem q_dgetS {H : Hp} {a : Addr} {kvs : List (Key × V)} {s : Str} {v : V} {A : V → Prop} (h : H a = some (.dK kvs)) (e : valV kvs (.inr s : Key) = some v) (q : A v) : ∃ a' v, V.ref a = .ref a' ∧ DGet H a' (.str s) (some v) ∧ A v := q_dgetK (k := .inr s) h e q
theorem valV_hit {k : Key} {v : V} {r : List (Key × V)} : valV ((k, v) :: r) k = some v := by simp [valV]
theorem valV_miss {k k' : Key} {v : V} {r : List (Key × V)} (h : k' ≠ k) : valV ((k', v) :: r) k = valV r k := by simp [valV, h]
/-- the events of a town as data, agains too -/
def payP (n : Str) (u : Int) : PyData := .tuple [.str "pay", .str n, .int u]
def wordP (w n : Str) : PyData := .tuple [.str w, .str n]
def allEv (ns : List Str) : List PyData :=
  ns.map (wordP "cut") ++ ns.map (wordP "line") ++ ns.flatMap (fun n => [payP n 1, payP n 2]) ++ [.tuple [.str "top", .int 1], .tuple [.str "top", .int 2], .tuple [.str "lose"]] ++ ns.map (wordP "again")
/-- a comprehension over texts whose element is a new tuple -/
theorem lc_td {J : It} {n : Nat} {G : Hp → Prop} {Y : Nat → Hp → V → Hp → Prop} (w : Walk J n G Y) {j : Nat} {te : TE} {σ : L2.St} {H1 : Hp} {D : Addr} {Qd : Hp → Prop} (hD : H1 D = none) (ds : List PyData) (hn : n = ds.length) (hN : n ≤ 1000)
    (hG : ∀ H, Same H1 H → G H) (xs : List V) (hY : ∀ i H x H', Y i H x H' → H' = H ∧ xs[i]? = some x)
    (he : ∀ (i : Nat) (x : V) (d : PyData) (H : Hp) (Q : VK), xs[i]? = some x → ds[i]? = some d → Same H1 H → (∀ v H', Same H H' → Td H' v d → Q v H') → te ((wipe σ [j]).set j (some x)) H Q)
    (hd : ∀ H, Same H1 H → LstD H D ds → Qd H) :
    ∃ W : Nat → Nat → Hp → Prop, (∃ m, W 0 m (upd H1 D (.lst []))) ∧ ∀ i m H, W i m H → (J.stop i H ∧ Qd H) ∨ (J.go i H ∧ ∃ Nx : Hp → Prop, (∀ H', Nx H' → ∃ m', m' < m ∧ W (i + 1) m' H') ∧
      ∀ x H', J.yld i H x H' → gName j x (wipe σ [j]) H' fun σ2 H2 => wipe σ2 [j] = wipe σ [j] ∧ tYes σ2 H2 fun b H3 => if b = true then te σ2 H3 fun y H4 => ∃ acc, H4 D = some (.lst acc) ∧ acc.length < sizeLine ∧ Nx (upd H4 D (.lst (acc ++ [y]))) else Nx H3) := by
  refine lc_it w (fun i H => Same H1 H ∧ LstD H D (ds.take i)) ⟨Same.new hD, [], upd_same, .nil⟩ (fun i H _ e => hG H e.1) (fun i x H H' hi e y => ?_) (fun H e => hd H e.1 (by have e2 := e.2; rw [hn, List.take_length] at e2; exact e2))
  obtain ⟨e2, hx⟩ := hY i H x H' y
  subst e2
  obtain ⟨e1, ys, hy, hys⟩ := e
  refine ⟨wipe1 σ j (some x), ?_⟩
  refine q_yes ?_
  refine iteT ?_
  have hlt : i < ds.length := by omega
  have hdi : ds[i]? = some ds[i] := List.getElem?_eq_getElem hlt
  refine he i x _ _ _ hx hdi e1 fun v H4 e4 t => ⟨ys, e4 _ _ hy, ?_, ?_, ?_⟩
  · rw [hys.len, List.length_take]; exact Nat.lt_of_le_of_lt (show min i ds.length ≤ 1000 by omega) (by decide)
  · intro c o hc
    rw [upd_ne (ne_of_none hc hD)]
    exact e4 _ _ (e1 _ _ hc)
  · refine ⟨ys ++ [v], upd_same, ?_⟩
    rw [List.take_add_one, hdi, Option.toList_some]
    have k : TupKeep H4 (upd H4 D (.lst (ys ++ [v]))) := .lst (e4 _ _ hy)
    exact ((hys.keep (.same e4)).keep k).app (.one (t.keep k))
end Kx
namespace Kx
open PySem PySem.Spec L2
theorem at_maps {α : Type} {l : List α} {f : α → V} {g : α → PyData} {i : Nat} {x : V} {d : PyData} (hx : (l.map f)[i]? = some x) (hd : (l.map g)[i]? = some d) : ∃ a, l[i]? = some a ∧ x = f a ∧ d = g a := by
  rw [List.getElem?_map] at hx hd
  cases e : l[i]? with
  | none => rw [e] at hx; cases hx
  | some a => rw [e] at hx hd; cases hx; cases hd; exact ⟨a, rfl, rfl, rfl⟩
theorem LstD.len {H : Hp} {a : Addr} {ds : List PyData} (h : LstD H a ds) : ∃ xs, H a = some (.lst xs) ∧ xs.length = ds.length ∧ TdAll H xs ds := let ⟨xs, e, t⟩ := h; ⟨xs, e, t.len, t⟩
theorem q_cat {H : Hp} {l b : Addr} {ds es : List PyData} {Q : VK} (h1 : LstD H l ds) (h2 : LstD H b es) (hl : ds.length + es.length ≤ 1000) (q : ∀ p H', H p = none → Same H H' → LstD H' p (ds ++ es) → Q (.ref p) H') : rCat (.ref l) (.ref b) H Q := by
  obtain ⟨xs, e1, l1, t1⟩ := h1.len
  obtain ⟨ys, e2, l2, t2⟩ := h2.len
  refine ⟨l, b, xs, ys, rfl, rfl, e1, e2, ?_, fun p hp => q p _ hp (Same.new hp) ⟨_, upd_same, (t1.app t2).keep (.new hp)⟩⟩
  rw [l1, l2]
  exact Nat.le_trans hl (by decide)
theorem LstD.mk {H : Hp} {a : Addr} {xs : List V} {ds : List PyData} (h : H a = some (.lst xs)) (t : TdAll H xs ds) : LstD H a ds := ⟨xs, h, t⟩
end Kx
namespace L2
theorem Same.free' {H H1 H2 : Hp} {l : PySem.Addr} (_ : Same H H2) (h : H1 l = none) (e : Same H H1) : H l = none := e.free h
end L2
namespace Kx
theorem flat2_len {α β : Type} (f g : α → β) : ∀ z : List α, (z.flatMap fun n => [f n, g n]).length = 2 * z.length
  | [] => rfl
  | a :: r => by
    simp only [List.flatMap_cons, List.length_append, flat2_len f g r, List.length_cons, List.length_nil]
    omega
end Kx

namespace Kx
open PySem PySem.Spec L2
theorem Same.mut {H0 H : Hp} {l : Addr} {o : HO} (e : Same H0 H) (h : H0 l = none) : Same H0 (upd H l o) := fun c u hc => by rw [upd_ne (ne_of_none hc h)]; exact e c u hc
theorem wipe2 (σ : L2.St) {j j1 : Nat} (h : j ≠ j1) (x : Option V) : wipe ((wipe σ [j, j1]).set j x) [j, j1] = wipe σ [j, j1] := by
  show ((((σ.set j1 none).set j none).set j x).set j1 none).set j none = (σ.set j1 none).set j none
  rw [List.set_set, List.set_comm _ _ h, List.set_set, List.set_set]
theorem LstD.push {H H1 : Hp} {D : Addr} {ds : List PyData} {v : V} {d : PyData} (h : LstD H D ds) (e : Same H H1) (t : Td H1 v d) (hl : ds.length ≤ 1000) : ∃ acc, H1 D = some (.lst acc) ∧ acc.length < sizeLine ∧ LstD (upd H1 D (.lst (acc ++ [v]))) D (ds ++ [d]) := by
  obtain ⟨ys, hy, hys⟩ := h
  refine ⟨ys, e _ _ hy, ?_, ys ++ [v], upd_same, ?_⟩
  · rw [hys.len]; exact Nat.lt_of_le_of_lt hl (by decide)
  · have k : TupKeep H1 (upd H1 D (.lst (ys ++ [v]))) := .lst (e _ _ hy)
    exact ((hys.keep (.same e)).keep k).app (.one (t.keep k))
/-- a comprehension of two clauses whose elements are new tuples, the second clause with a test -/
theorem lc2_td {J J1 : It} {n n1 : Nat} {G G1 : Hp → Prop} {Y Y1 : Nat → Hp → V → Hp → Prop} (w : Walk J n G Y) (w1 : Walk J1 n1 G1 Y1) {j j1 : Nat} {te : TE} {tt1 : TT} {wi1 : TI} {σ : L2.St} {H1 : Hp} {D : Addr} {Qd : Hp → Prop} (hj : j ≠ j1) (hD : H1 D = none)
    (xs ys : List V) (dss : List (List (Option PyData))) (hn : n = dss.length) (hn1 : ∀ ds ∈ dss, ds.length = n1) (hN : n * n1 ≤ 1000) (hG : ∀ H, Same H1 H → G H) (hG1 : ∀ H, Same H1 H → G1 H)
    (hY : ∀ i H x H', Y i H x H' → H' = H ∧ xs[i]? = some x) (hY1 : ∀ i H x H', Y1 i H x H' → H' = H ∧ ys[i]? = some x)
    (hw1 : ∀ (i : Nat) (x : V) (H : Hp) (R : It → Hp → Prop), xs[i]? = some x → Same H1 H → R J1 H → wi1 ((wipe σ [j, j1]).set j (some x)) H R)
    (ht : ∀ (i i1 : Nat) (x y : V) (ds : List (Option PyData)) (d : Option PyData) (H : Hp) (Q : Bool → Hp → Prop), xs[i]? = some x → ys[i1]? = some y → dss[i]? = some ds → ds[i1]? = some d → Same H1 H → (∀ H', Same H H' → Q d.isSome H') →
      tt1 ((wipe ((wipe σ [j, j1]).set j (some x)) [j1]).set j1 (some y)) H Q)
    (he : ∀ (i i1 : Nat) (x y : V) (ds : List (Option PyData)) (d : PyData) (H : Hp) (Q : VK), xs[i]? = some x → ys[i1]? = some y → dss[i]? = some ds → ds[i1]? = some (some d) → Same H1 H → (∀ v H', Same H H' → Td H' v d → Q v H') →
      te ((wipe ((wipe σ [j, j1]).set j (some x)) [j1]).set j1 (some y)) H Q)
    (hd : ∀ H, Same H1 H → LstD H D (dss.flatten.filterMap id) → Qd H) :
    ∃ W : Nat → Nat → Hp → Prop, (∃ m, W 0 m (upd H1 D (.lst []))) ∧ ∀ i m H, W i m H → (J.stop i H ∧ Qd H) ∨ (J.go i H ∧ ∃ Nx : Hp → Prop, (∀ H', Nx H' → ∃ m', m' < m ∧ W (i + 1) m' H') ∧
      ∀ x H', J.yld i H x H' → gName j x (wipe σ [j, j1]) H' fun σ2 H2 => wipe σ2 [j, j1] = wipe σ [j, j1] ∧ tYes σ2 H2 fun b H3 => if b = true then wi1 σ2 H3 fun J1 H4 => ∃ W1 : Nat → Nat → Hp → Prop, (∃ m, W1 0 m H4) ∧ ∀ j k H, W1 j k H →
        (J1.stop j H ∧ Nx H) ∨ (J1.go j H ∧ ∃ Nx1 : Hp → Prop, (∀ H', Nx1 H' → ∃ k', k' < k ∧ W1 (j + 1) k' H') ∧ ∀ x H', J1.yld j H x H' → gName j1 x (wipe σ2 [j1]) H' fun σ3 H5 => wipe σ3 [j1] = wipe σ2 [j1] ∧ tt1 σ3 H5 fun b H6 =>
          if b = true then te σ3 H6 fun y H7 => ∃ acc, H7 D = some (.lst acc) ∧ acc.length < sizeLine ∧ Nx1 (upd H7 D (.lst (acc ++ [y]))) else Nx1 H6) else Nx H3) := by
  have hlen : ∀ (a : List (Option PyData)), (a.filterMap id).length ≤ a.length := fun a => List.length_filterMap_le _ _
  refine ⟨fun i m H => m = n - i ∧ i ≤ n ∧ Same H1 H ∧ LstD H D ((dss.take i).flatten.filterMap id), ⟨n, by simp, Nat.zero_le _, Same.new hD, [], upd_same, .nil⟩, ?_⟩
  rintro i m H ⟨rfl, hi, e, dl⟩
  by_cases hle : n ≤ i
  · have ei : i = n := by omega
    subst ei
    refine .inl ⟨w.stops H (hG H e), hd H e ?_⟩
    rw [hn, List.take_length] at dl
    exact dl
  have hlt : i < n := by omega
  refine .inr ⟨w.goes i H hlt (hG H e), fun H' => i + 1 ≤ n ∧ Same H1 H' ∧ LstD H' D ((dss.take (i + 1)).flatten.filterMap id), fun H' p => ⟨n - (i + 1), by omega, rfl, p⟩, fun x H' y => ?_⟩
  obtain ⟨e2, hx⟩ := hY i H x H' (w.yields i H x H' hlt (hG H e) y)
  subst e2
  refine ⟨wipe2 σ hj (some x), ?_⟩
  refine q_yes ?_
  refine iteT ?_
  refine hw1 i x _ _ hx e ?_
  have hid : i < dss.length := by omega
  have hds : dss[i]? = some dss[i] := List.getElem?_eq_getElem hid
  generalize dss[i] = ds at hds
  have hdl : ds.length = n1 := hn1 ds (List.mem_of_getElem? hds)
  have hfl : ∀ q : Nat, ((dss.take i).flatten ++ ds.take q).length ≤ 1000 := by
    intro q
    rw [List.length_append, List.length_flatten, List.length_take]
    have h1 : ((dss.take i).map List.length).sum = i * n1 := by
      have h2 : (dss.take i).map List.length = List.replicate i n1 := by
        refine List.ext_getElem? fun z => ?_
        rw [List.getElem?_map, List.getElem?_take, List.getElem?_replicate]
        split
        · rename_i hz
          have hz2 : z < dss.length := by omega
          rw [List.getElem?_eq_getElem hz2, Option.map_some, hn1 _ (List.getElem_mem hz2)]
        · rfl
      rw [h2]
      simp
    rw [h1]
    have h3 : i * n1 + n1 ≤ n * n1 := by
      have : (i + 1) * n1 ≤ n * n1 := Nat.mul_le_mul_right _ hlt
      rw [Nat.succ_mul] at this
      exact this
    omega
  refine ⟨fun i1 k H => k = n1 - i1 ∧ i1 ≤ n1 ∧ Same H1 H ∧ LstD H D (((dss.take i).flatten ++ ds.take i1).filterMap id), ⟨n1, by simp, Nat.zero_le _, e, by simpa using dl⟩, ?_⟩
  rintro i1 k H' ⟨rfl, hi1, e1, dl1⟩
  by_cases hle1 : n1 ≤ i1
  · have ei : i1 = n1 := by omega
    subst ei
    refine .inl ⟨w1.stops H' (hG1 H' e1), hlt, e1, ?_⟩
    rw [← hdl, List.take_length] at dl1
    rw [List.take_add_one, hds, Option.toList_some, List.flatten_append, List.flatten_cons, List.flatten_nil, List.append_nil]
    exact dl1
  have hlt1 : i1 < n1 := by omega
  refine .inr ⟨w1.goes i1 H' hlt1 (hG1 H' e1), fun H' => i1 + 1 ≤ n1 ∧ Same H1 H' ∧ LstD H' D (((dss.take i).flatten ++ ds.take (i1 + 1)).filterMap id), fun H' p => ⟨n1 - (i1 + 1), by omega, rfl, p⟩, fun z H'' y => ?_⟩
  obtain ⟨e3, hz⟩ := hY1 i1 H' z H'' (w1.yields i1 H' z H'' hlt1 (hG1 H' e1) y)
  subst e3
  refine ⟨wipe1 _ j1 (some z), ?_⟩
  have hid1 : i1 < ds.length := by omega
  have hd1 : ds[i1]? = some ds[i1] := List.getElem?_eq_getElem hid1
  generalize ds[i1] = d at hd1
  have step : (((dss.take i).flatten ++ ds.take (i1 + 1)).filterMap id) = (((dss.take i).flatten ++ ds.take i1).filterMap id) ++ ([d].filterMap id) := by
    rw [List.take_add_one, hd1, Option.toList_some, ← List.append_assoc, List.filterMap_append]
  refine ht i i1 x z ds d _ _ hx hz hds hd1 e1 fun H2 e2 => ?_
  cases d with
  | none =>
    refine iteF ?_
    refine ⟨hlt1, e1.trans e2, ?_⟩
    rw [step]
    simpa using dl1.same e2
  | some d =>
    refine iteT ?_
    refine he i i1 x z ds d _ _ hx hz hds hd1 (e1.trans e2) fun v H4 e4 t => ?_
    obtain ⟨acc, h1, h2, h3⟩ := (dl1.same e2).push e4 t (Nat.le_trans (hlen _) (hfl i1))
    refine ⟨acc, h1, h2, hlt1, Same.mut ((e1.trans e2).trans e4) hD, ?_⟩
    rw [step]
    exact h3
theorem q_lc2 {wi wi1 : TI} {g g1 : TG} {tt tt1 : TT} {te : TE} {vs vs1 : List Nat} {σ : L2.St} {H : Hp} {Q : VK}
    (h : wi σ H fun J H1 => ∀ D, H1 D = none → ∃ W : Nat → Nat → Hp → Prop, (∃ m, W 0 m (upd H1 D (.lst []))) ∧ ∀ i m H, W i m H → (J.stop i H ∧ Q (.ref D) H) ∨ (J.go i H ∧ ∃ Nx : Hp → Prop, (∀ H', Nx H' → ∃ m', m' < m ∧ W (i + 1) m' H') ∧
      ∀ x H', J.yld i H x H' → g x (wipe σ vs) H' fun σ2 H2 => wipe σ2 vs = wipe σ vs ∧ tt σ2 H2 fun b H3 => if b = true then wi1 σ2 H3 fun J1 H4 => ∃ W1 : Nat → Nat → Hp → Prop, (∃ m, W1 0 m H4) ∧ ∀ j k H, W1 j k H →
        (J1.stop j H ∧ Nx H) ∨ (J1.go j H ∧ ∃ Nx1 : Hp → Prop, (∀ H', Nx1 H' → ∃ k', k' < k ∧ W1 (j + 1) k' H') ∧ ∀ x H', J1.yld j H x H' → g1 x (wipe σ2 vs1) H' fun σ3 H5 => wipe σ3 vs1 = wipe σ2 vs1 ∧ tt1 σ3 H5 fun b H6 =>
          if b = true then te σ3 H6 fun y H7 => ∃ acc, H7 D = some (.lst acc) ∧ acc.length < sizeLine ∧ Nx1 (upd H7 D (.lst (acc ++ [y]))) else Nx1 H6) else Nx H3)) : tLc2 wi g tt wi1 g1 tt1 te vs vs1 σ H Q := h
end Kx
namespace Kx
open PySem PySem.Spec L2
theorem Same.but0 {H H1 H2 : Hp} {p : Addr} (e : Same H H1) (hp : H p = none) (b : But p H1 H2) : Same H H2 := Same.but e hp b
theorem q_ext {H : Hp} {l b : Addr} {ds es : List PyData} {Q : VK} (h1 : LstD H l ds) (h2 : LstD H b es) (hl : ds.length + es.length ≤ 1000) (q : ∀ H', But l H H' → TupKeep H H' → LstD H' l (ds ++ es) → Q .non H') : rExtend (.ref l) [.ref b] H Q := by
  obtain ⟨xs, e1, l1, t1⟩ := h1.len
  obtain ⟨ys, e2, l2, t2⟩ := h2.len
  refine ⟨l, b, xs, ys, rfl, rfl, e1, e2, ?_, q _ But.upd (.lst e1) ⟨_, upd_same, (t1.app t2).keep (.lst e1)⟩⟩
  rw [l1, l2]
  exact Nat.le_trans hl (by decide)
theorem q_app {H : Hp} {l : Addr} {ds : List PyData} {v : V} {d : PyData} {Q : VK} (h1 : LstD H l ds) (h2 : Td H v d) (hl : ds.length ≤ 1000) (q : ∀ H', But l H H' → TupKeep H H' → LstD H' l (ds ++ [d]) → Q .non H') : rAppend (.ref l) [v] H Q := by
  obtain ⟨xs, e1, l1, t1⟩ := h1.len
  refine ⟨l, xs, v, rfl, rfl, e1, ?_, q _ But.upd (.lst e1) ⟨_, upd_same, (t1.app (.one h2)).keep (.lst e1)⟩⟩
  rw [l1]
  exact Nat.lt_of_le_of_lt hl (by decide)
end Kx
namespace Kx
open PySem PySem.Spec L2
section
variable {K : PySem.W.Frag} {σ : L2.St} {H : Hp} {Q : VK} {ta : TE} {t tk : TA} {C : Addr} {m : Str} {sp : Sp} {dvs : List V} {E : XK}
theorem q_meth (h : ta σ H fun x H1 => ∃ a dx fs, x = .ref a ∧ H1 a = some (.ins C dx fs) ∧ fs.lookup m = none ∧ t σ H1 fun vs H2 => sp (x :: (vs ++ dvs)) H2 Q E) : tMeth C m sp dvs E ta t σ H Q := h
theorem q_bm {T : String} {r : V → List V → Hp → VK → Prop} (h : ta σ H fun x H1 => tyV K T x H1 ∧ t σ H1 fun xs H2 => r x xs H2 Q) : tBM K T r ta t σ H Q := h
theorem q_make (h : t σ H fun vs H1 => ∀ x dx, H1 x = none → H1 dx = none → dx ≠ x → sp (.ref x :: (vs ++ dvs)) (upd (upd H1 dx (.own x)) x (.ins C dx [])) (fun v H2 => v = .non ∧ Q (.ref x) H2) E) : tMake C sp dvs E t σ H Q := h
theorem q_makeK {n k : Nat} {gV : List V → List V → List V} (h : t σ H fun vs H1 => tk σ H1 fun zs H2 => vs.length = n ∧ zs.length = k ∧ ∀ x dx, H2 x = none → H2 dx = none → dx ≠ x → sp (gV (.ref x :: vs) zs) (upd (upd H2 dx (.own x)) x (.ins C dx [])) (fun v H3 => v = .non ∧ Q (.ref x) H3) E) : tMakeK C n k sp gV E t tk σ H Q := h
end
end Kx

namespace Kx
open PySem PySem.Spec L2
def isUnits (x : V) : Bool := decide (x = .int 1) || decide (x = .int 2)
def inNames (ns : List Str) : V → Bool
  | .str s => decide (s ∈ ns)
  | _ => false
theorem inNames_not {ns : List Str} {x : V} (h : ∀ s, x ≠ .str s) : inNames ns x = false := by
  cases x <;> first | rfl | exact absurd rfl (h _)
/-- an event of a town with these tills, by its items -/
def evT (ns : List Str) : List V → Bool
  | [.str w] => decide (w = "lose")
  | [.str w, y] => if w = "top" then isUnits y else (decide (w = "cut") || decide (w = "line") || decide (w = "again")) && inNames ns y
  | [.str w, y, u] => decide (w = "pay") && inNames ns y && isUnits u
  | _ => false
def isEvH (ns : List Str) (H : Hp) : V → Bool
  | .ref a => match H a with
    | some (.tup xs) => evT ns xs
    | _ => false
  | _ => false
theorem isEvH_tup {ns : List Str} {H : Hp} {a : Addr} {xs : List V} (h : H a = some (.tup xs)) : isEvH ns H (.ref a) = evT ns xs := by simp [isEvH, h]
theorem isEvH_no {ns : List Str} {H : Hp} {x : V} (ha : Any H x) (h : (kindOf H x == "tuple") = false) : isEvH ns H x = false := by
  cases ha with
  | tup e => simp [kindOf, e] at h
  | lst e => simp [isEvH, e]
  | dK e => simp [isEvH, e]
  | _ => rfl
/-- what a law asks about: a value, the items of a tuple -/
def AnyE (H : Hp) (v : V) : Prop := Any H v ∧ ∀ a xs, v = .ref a → H a = some (.tup xs) → ∀ y ∈ xs, Any H y ∧ ∀ s, y = .str s → s.length ≤ 100000
theorem AnyE.same {H H' : Hp} {v : V} (h : AnyE H v) (e : Same H H') : AnyE H' v := by
  refine ⟨h.1.same e, fun a xs ha hx y hy => ?_⟩
  subst ha
  obtain ⟨o, ho⟩ := h.1.ref
  have h1 := e _ _ ho
  rw [hx] at h1
  cases h1
  exact ⟨(h.2 a xs rfl ho y hy).1.same e, (h.2 a xs rfl ho y hy).2⟩
theorem isEvH_same {ns : List Str} {H H' : Hp} {v : V} (h : Any H v) (e : Same H H') : isEvH ns H' v = isEvH ns H v := by
  cases h with
  | lst h => simp [isEvH, h, e _ _ h]
  | tup h => simp [isEvH, h, e _ _ h]
  | dK h => simp [isEvH, h, e _ _ h]
  | _ => rfl
theorem AnyE.flat {H : Hp} {v : V} (h : Any H v) (hr : ∀ a, v ≠ .ref a) : AnyE H v := ⟨h, fun a _ e => absurd e (hr a)⟩
theorem AnyE.tup {H : Hp} {a : Addr} {xs : List V} (h : H a = some (.tup xs)) (hx : ∀ y ∈ xs, Any H y ∧ ∀ s, y = .str s → s.length ≤ 100000) : AnyE H (.ref a) := ⟨.tup h, fun b ys e hb => by cases e; rw [h] at hb; cases hb; exact hx⟩
theorem AnyE.lst {H : Hp} {a : Addr} {xs : List V} (h : H a = some (.lst xs)) : AnyE H (.ref a) := ⟨.lst h, fun b ys e hb => by cases e; rw [h] at hb; cases hb⟩
theorem AnyE.dK {H : Hp} {a : Addr} {xs : List (Key × V)} (h : H a = some (.dK xs)) : AnyE H (.ref a) := ⟨.dK h, fun b ys e hb => by cases e; rw [h] at hb; cases hb⟩
theorem TownAt.same {cT cC a : Addr} {H H' : Hp} {M : ModelD} (h : TownAt cT cC H a M) (e : Same H H') : TownAt cT cC H' a M := by
  obtain ⟨dx, tt, bn, lk, mm, rs, h1, h2, h3, h4, h5, h6⟩ := h.ex
  exact ⟨h.good, dx, tt, bn, lk, mm, rs, e _ _ h1, e _ _ h2, h3.imp fun v t ⟨x, ex, q⟩ => ⟨x, ex, q.same e⟩, e _ _ h4, h5.keep (.same e) _ _, h6.keep (.same e) _ _⟩
theorem valV_zip {α : Type} (f : Str → Key) (hf : ∀ a b, f a = f b → a = b) : ∀ (ns : List Str) (rs : List V) (s : Str), ns.length = rs.length → (valV ((ns.zip rs).map fun p => (f p.1, p.2)) (f s)).isSome = decide (s ∈ ns)
  | [], [], s, _ => by simp [valV]
  | n :: ns, r :: rs, s, h => by
    rw [List.zip_cons_cons, List.map_cons]
    by_cases e : n = s
    · subst e
      rw [valV_hit]
      simp
    · rw [valV_miss (fun q => e (hf _ _ q)), valV_zip (α := α) f hf ns rs s (by simpa using h)]
      have : decide (s ∈ n :: ns) = decide (s ∈ ns) := by
        simp [List.mem_cons, Ne.symm e]
      rw [this]
  | [], _ :: _, _, h => by cases h
  | _ :: _, [], _, h => by cases h
theorem names_len (M : ModelD) : M.names.length = M.tills.length := by unfold ModelD.names; rw [List.length_map]
theorem Good.name {M : ModelD} (g : Good M) {s : Str} (h : s ∈ M.names) : isNameS s = true := by
  unfold ModelD.names at h
  obtain ⟨t, ht, rfl⟩ := List.mem_map.mp h
  exact g.nm t ht
end Kx
namespace Kx
open PySem PySem.Spec L2
theorem evT_long {ns : List Str} {xs : List V} (h : 3 < xs.length) : evT ns xs = false := by
  unfold evT
  split <;> first | rfl | (simp at h)
theorem evT_nstr {ns : List Str} {y : V} {r : List V} (h : ∀ s, y ≠ .str s) : evT ns (y :: r) = false := by
  unfold evT
  split
  · rename_i e; injection e with e1 _; exact absurd e1 (h _)
  · rename_i e; injection e with e1 _; exact absurd e1 (h _)
  · rename_i e; injection e with e1 _; exact absurd e1 (h _)
  · rfl
end Kx
namespace Kx
open PySem PySem.Spec L2
theorem q_iEnum {K : PySem.W.Frag} {ta : TA} {σ : L2.St} {H : Hp} {R : It → Hp → Prop} (h : ta σ H fun vs H1 => ∃ a xs, vs = [.ref a] ∧ SqL K H1 a xs ∧ R (Ite K a) H1) : iEnum K ta σ H R := h
/-- a dict that tells which keys were seen -/
def seenK {κ : Type} (ks : List κ) : List (κ × V) := ks.map fun k => (k, .bl true)
theorem seenK_get {κ : Type} [DecidableEq κ] : ∀ (ks : List κ) (k : κ), k ∉ ks → valV (seenK ks) k = none
  | [], _, _ => rfl
  | a :: r, k, h => by
    have h1 : ¬ a = k := fun e => h (by rw [e]; exact List.mem_cons_self)
    have h2 : valV (seenK r) k = none := seenK_get r k (fun e => h (List.mem_cons_of_mem _ e))
    simpa [seenK, valV, h1] using h2
theorem seenK_put {κ : Type} [DecidableEq κ] (ks : List κ) (k : κ) (h : k ∉ ks) : putK (seenK ks) k (.bl true) = seenK (ks ++ [k]) := by
  rw [putK_new _ (seenK_get ks k h)]
  simp [seenK]
theorem nodup_at {α : Type} {l : List α} (h : l.Nodup) {i : Nat} {x : α} (e : l[i]? = some x) : x ∉ l.take i := by
  intro hx
  obtain ⟨j, hj, hj2⟩ := List.mem_iff_getElem.mp hx
  rw [List.length_take] at hj
  rw [List.getElem_take] at hj2
  have h2 : l[j]? = some x := by rw [List.getElem?_eq_getElem (by omega), hj2]
  have := nd_ix h h2 e
  omega
theorem take_snoc {α : Type} {l : List α} {i : Nat} {x : α} (e : l[i]? = some x) : l.take (i + 1) = l.take i ++ [x] := by
  rw [List.take_add_one, e, Option.toList_some]
/-- a memory's tuple -/
def memV : MemD → List V
  | .nothing => [.str "nothing"]
  | .times n => [.str "times", .int n]
  | .sum n => [.str "sum", .int n]
theorem memV_of {H : Hp} {a : Addr} {m : MemD} (h : Td H (.ref a) (memP m)) : H a = some (.tup (memV m)) := by
  cases m with
  | nothing =>
    cases h with
    | tup h hs => cases hs with | cons a b => cases a; cases b; exact h
  | times n =>
    cases h with
    | tup h hs => cases hs with | cons a b => cases a; cases b with | cons a b => cases a; cases b; exact h
  | sum n =>
    cases h with
    | tup h hs => cases hs with | cons a b => cases a; cases b with | cons a b => cases a; cases b; exact h
def MemOk : MemD → Prop
  | .nothing => True
  | .times n => 0 ≤ n ∧ n ≤ 9
  | .sum n => 0 ≤ n ∧ n ≤ 9
theorem memV_ok {m : MemD} (h : MemOk m) : isMemT (memV m) = true := by
  cases m with
  | nothing => decide +kernel
  | times n =>
    have e : isIntTo 9 (.int n) = true := by show (decide _ && decide _) = true; rw [decide_eq_true h.1, decide_eq_true h.2]; rfl
    exact (congrArg (fun b => (isWordV "times" (.str "times") || isWordV "sum" (.str "times")) && b) e).trans (by decide +kernel)
  | sum n =>
    have e : isIntTo 9 (.int n) = true := by show (decide _ && decide _) = true; rw [decide_eq_true h.1, decide_eq_true h.2]; rfl
    exact (congrArg (fun b => (isWordV "times" (.str "sum") || isWordV "sum" (.str "sum")) && b) e).trans (by decide +kernel)
theorem memV_any {H : Hp} {m : MemD} : ∀ v ∈ memV m, Any H v := by
  cases m <;> intro v hv <;> simp [memV] at hv
  · subst hv; exact .str _
  · rcases hv with rfl | rfl
    · exact .str _
    · exact .int _
  · rcases hv with rfl | rfl
    · exact .str _
    · exact .int _
theorem intTo_of {i t : Int} (h0 : 0 ≤ i) (h1 : i ≤ t) : isIntTo t (.int i) = true := by show (decide _ && decide _) = true; rw [decide_eq_true h0, decide_eq_true h1]; rfl
theorem inV_strs (s : Str) (ns : List Str) : inV (.str s) (ns.map V.str) = decide (s ∈ ns) := by
  unfold inV
  induction ns with
  | nil => rfl
  | cons n r ih =>
    rw [List.map_cons, List.any_cons, ih]
    show ((n == s) || _) = _
    by_cases e : n = s
    · subst e; simp
    · have : (n == s) = false := by simpa using e
      rw [this, Bool.false_or]
      simp [List.mem_cons, Ne.symm e]
theorem flat_strsV (ns : List Str) : (ns.map V.str).all flatV = true := by
  rw [List.all_map, List.all_eq_true]
  intro x _
  rfl
end Kx
namespace Kx
open PySem PySem.Spec L2
theorem q_dnewT {σ : L2.St} {H : Hp} {Q : VK} (q : ∀ p, H p = none → Q (.ref p) (upd H p (.dT []))) : tDNewT σ H Q := q
end Kx

namespace Kx
open PySem PySem.Spec L2 PyProof.Rows
/-! ### links: their order, whether two are equal -/
def leS (a b : Str) : Prop := a.cps.toList ≤ b.cps.toList
theorem risingS_pw : ∀ (xs : List Str) (p : Str), risingS p xs = true → (p :: xs).Pairwise leS
  | [], p, _ => by simp
  | x :: r, p, h => by
    unfold risingS at h
    rw [Bool.and_eq_true, ltCps_eq] at h
    have h1 : leS p x := by
      show ¬ x.cps.toList < p.cps.toList
      simpa using h.1
    have ih := risingS_pw r x h.2
    refine List.Pairwise.cons (fun y hy => ?_) ih
    rcases List.mem_cons.mp hy with rfl | hy
    · exact h1
    · exact List.le_trans h1 (List.rel_of_pairwise_cons ih hy)
theorem sortedS_pw {xs : List Str} (h : sortedS xs = true) : xs.Pairwise leS := by
  cases xs with
  | nil => simp
  | cons x r => exact risingS_pw r x h
theorem sorted_one {xs ys : List Str} (hx : sortedS xs = true) (hy : sortedS ys = true) (h : xs.Perm ys) : xs = ys :=
  List.Perm.eq_of_pairwise (fun _ _ _ _ h1 h2 => str_ext (List.le_antisymm h1 h2)) (sortedS_pw hx) (sortedS_pw hy) h
def okL (k : Str × Str) : Prop := PyData.strOk k.1 = true ∧ PyData.strOk k.2 = true
theorem linkP_lay {k : Str × Str} (h : okL k) : (linkP k).canLay0 = true := by
  obtain ⟨h1, h2⟩ := h
  simp [linkP, PyData.canLay0, PyData.canLayAll0, h1, h2]
theorem linkP_depth (k : Str × Str) : (linkP k).depth = 1 := by simp [linkP, PyData.depth, PyData.depthAll]
theorem linkPs_lay : ∀ zs : List (Str × Str), (∀ k ∈ zs, okL k) → PyData.canLayAll0 (zs.map linkP) = true
  | [], _ => by simp [PyData.canLayAll0]
  | z :: zs, h => by simp [PyData.canLayAll0, linkP_lay (h z (by simp)), linkPs_lay zs (fun k hk => h k (by simp [hk]))]
theorem linkPs_depth : ∀ zs : List (Str × Str), PyData.depthAll (zs.map linkP) ≤ 2
  | [] => by simp [PyData.depthAll]
  | z :: zs => by
    have h1 := linkPs_depth zs
    have h2 := linkP_depth z
    simp only [List.map_cons, PyData.depthAll]
    omega
theorem linkP_shaped {z : Str × Str} (k : okL z) : SeqAt.shaped (linkP z) = true := by
  have h := linkP_depth z
  show ((linkP z).canLay0 && decide ((linkP z).depth ≤ 64)) = true
  rw [Bool.and_eq_true]
  exact ⟨linkP_lay k, decide_eq_true (by omega)⟩
theorem linkPs_shaped {zs : List (Str × Str)} (k : ∀ z ∈ zs, okL z) : SeqAt.shaped (.list (zs.map linkP)) = true := by
  have h1 := linkPs_depth zs
  have h2 : PyData.depth (.list (zs.map linkP)) ≤ 64 := by
    simp only [PyData.depth]
    omega
  show (PyData.canLay0 (.list (zs.map linkP)) && decide (PyData.depth (.list (zs.map linkP)) ≤ 64)) = true
  rw [Bool.and_eq_true]
  exact ⟨by simp only [PyData.canLay0]; exact linkPs_lay zs k, decide_eq_true h2⟩
theorem linkP_eqv (z w : Str × Str) : PyData.eqv (linkP z) (linkP w) = (z == w) := by
  obtain ⟨a, b⟩ := z
  obtain ⟨a', b'⟩ := w
  have e : PyData.eqv (linkP (a, b)) (linkP (a', b')) = ((a == a') && ((b == b') && true)) := by simp only [linkP, PyData.eqv, PyData.eqvAll]
  rw [e, Bool.and_true]
  rfl
theorem links_any (ks : List (Str × Str)) (l : Str × Str) : ((ks.map linkP).any fun z => PyData.eqv z (linkP l)) = ks.contains l := by
  induction ks with
  | nil => rfl
  | cons k r ih =>
    rw [List.map_cons, List.any_cons, ih, linkP_eqv, List.contains_cons]
    congr 1
    exact Bool.beq_comm
def ascO (ord : List Str) (ks : List (Str × Str)) : List (List (Option PyData)) := ord.map fun a => ord.map fun b => if ks.contains (a, b) = true then some (linkP (a, b)) else none
theorem asc_flat (ord : List Str) (ks : List (Str × Str)) : (ascO ord ks).flatten.filterMap id = (ascL ord ks).map linkP := by
  unfold ascO ascL
  have inner : ∀ (a : Str) (o2 : List Str), (o2.map fun b => if ks.contains (a, b) = true then some (linkP (a, b)) else none).filterMap id = ((o2.map fun b => (a, b)).filter fun l => ks.contains l).map linkP := by
    intro a o2
    induction o2 with
    | nil => rfl
    | cons b r ih =>
      rw [List.map_cons, List.map_cons]
      by_cases h : ks.contains (a, b) = true
      · rw [if_pos h, List.filter_cons_of_pos h, List.map_cons, List.filterMap_cons_some (by rfl), ih]
      · rw [if_neg h, List.filter_cons_of_neg h, List.filterMap_cons_none (by rfl), ih]
  have outer : ∀ o1 : List Str, (o1.map fun a => ord.map fun b => if ks.contains (a, b) = true then some (linkP (a, b)) else none).flatten.filterMap id = (o1.flatMap fun a => (ord.map fun b => (a, b)).filter fun l => ks.contains l).map linkP := by
    intro o1
    induction o1 with
    | nil => rfl
    | cons a r ih => rw [List.map_cons, List.flatten_cons, List.filterMap_append, ih, inner, List.flatMap_cons, List.map_append]
  exact outer ord
theorem q_sortedS {K : PySem.W.Frag} {H : Hp} {a : Addr} {xs : List Str} {Q : VK} (h : SqL K H a (xs.map V.str)) (hl : xs.length < 64) (q : ∀ (ys : List Str) (p : Addr), ys.Perm xs → sortedS ys = true → H p = none → Q (.ref p) (upd H p (.lst (ys.map V.str)))) : rSortedS K [.ref a] H Q := ⟨a, xs, rfl, h, hl, q⟩
theorem q_tupOf {K : PySem.W.Frag} {H : Hp} {a : Addr} {ys : List V} {Q : VK} (h : SqL K H a ys) (q : ∀ l, H l = none → Q (.ref l) (upd H l (.tup ys))) : rTupOf K [.ref a] H Q := ⟨a, ys, rfl, .inl ⟨h, q⟩⟩
theorem at_maps1 {α : Type} {f : α → V} {l : List α} {i : Nat} {x : V} (h : (l.map f)[i]? = some x) : ∃ a, l[i]? = some a ∧ x = f a := by
  rw [List.getElem?_map] at h
  cases e : l[i]? with
  | none => rw [e] at h; cases h
  | some a => rw [e] at h; cases h; exact ⟨a, rfl, rfl⟩
theorem q_dc {wi : TI} {g : TG} {tt : TT} {tk tv : TE} {vs : List Nat} {σ : L2.St} {H : Hp} {Q : VK}
    (h : wi σ H fun J H1 => ∀ D, H1 D = none → ∃ W : Nat → Nat → Hp → Prop, (∃ m, W 0 m (upd H1 D (.dK []))) ∧ ∀ i m H, W i m H →
      (J.stop i H ∧ Q (.ref D) H) ∨ (J.go i H ∧ ∃ Nx : Hp → Prop, (∀ H', Nx H' → ∃ m', m' < m ∧ W (i + 1) m' H') ∧ ∀ x H', J.yld i H x H' → g x (wipe σ vs) H' fun σ2 H2 => wipe σ2 vs = wipe σ vs ∧ tt σ2 H2 fun b H3 =>
        if b = true then tk σ2 H3 fun y H4 => tv σ2 H4 fun z H5 => ∃ kvs k, y = kV k ∧ H5 D = some (.dK kvs) ∧ kvs.length < sizeLine ∧ Nx (upd H5 D (.dK (putK kvs k z))) else Nx H3)) : tDc wi g tt tk tv vs σ H Q := h
theorem valV_none {ks : List Key} {vs : List V} {k : Key} (h : k ∉ ks) : valV (ks.zip vs) k = none := by
  induction ks generalizing vs with
  | nil => rfl
  | cons a r ih =>
    cases vs with
    | nil => rfl
    | cons v vs =>
      rw [List.zip_cons_cons, valV_miss (fun e => h (by rw [e]; exact List.mem_cons_self))]
      exact ih (fun e => h (List.mem_cons_of_mem _ e))
theorem zip_take {α β : Type} : ∀ (as : List α) (bs : List β) (i : Nat), (as.zip bs).take i = (as.take i).zip (bs.take i)
  | [], _, i => by simp
  | _ :: _, [], i => by simp
  | a :: as, b :: bs, 0 => rfl
  | a :: as, b :: bs, i + 1 => by rw [List.zip_cons_cons, List.take_succ_cons, List.take_succ_cons, List.take_succ_cons, List.zip_cons_cons, zip_take as bs i]
/-- a dict made of distinct keys, one for each item -/
theorem dc_idx {J : It} {n : Nat} {G : Hp → Prop} {Y : Nat → Hp → V → Hp → Prop} (w : Walk J n G Y) {j : Nat} {tk tv : TE} {σ : L2.St} {H1 : Hp} {D : Addr} {Qd : Hp → Prop} (xs : List V) (ks : List Key) (vs : List V) (hn : n = xs.length) (hk : xs.length = ks.length) (hv : xs.length = vs.length) (nd : ks.Nodup) (hN : n < sizeLine)
    (hG : ∀ o, G (upd H1 D o)) (hY : ∀ i H x H', Y i H x H' → H' = H ∧ xs[i]? = some x)
    (he : ∀ (i : Nat) (x : V) (k : Key) (v : V) (o : HO) (Q : V → V → Hp → Prop), xs[i]? = some x → ks[i]? = some k → vs[i]? = some v → Q (kV k) v (upd H1 D o) → tk ((wipe σ [j]).set j (some x)) (upd H1 D o) fun y H4 => tv ((wipe σ [j]).set j (some x)) H4 fun z H5 => Q y z H5)
    (hd : Qd (upd H1 D (.dK (ks.zip vs)))) :
    ∃ W : Nat → Nat → Hp → Prop, (∃ m, W 0 m (upd H1 D (.dK []))) ∧ ∀ i m H, W i m H →
      (J.stop i H ∧ Qd H) ∨ (J.go i H ∧ ∃ Nx : Hp → Prop, (∀ H', Nx H' → ∃ m', m' < m ∧ W (i + 1) m' H') ∧ ∀ x H', J.yld i H x H' → gName j x (wipe σ [j]) H' fun σ2 H2 => wipe σ2 [j] = wipe σ [j] ∧ tYes σ2 H2 fun b H3 =>
        if b = true then tk σ2 H3 fun y H4 => tv σ2 H4 fun z H5 => ∃ kvs k, y = kV k ∧ H5 D = some (.dK kvs) ∧ kvs.length < sizeLine ∧ Nx (upd H5 D (.dK (putK kvs k z))) else Nx H3) := by
  refine ⟨fun i m H => m = n - i ∧ i ≤ n ∧ H = upd H1 D (.dK ((ks.zip vs).take i)), ⟨n, by simp, Nat.zero_le _, by simp⟩, ?_⟩
  rintro i m H ⟨rfl, hi, e⟩
  subst e
  by_cases hlt : i < n
  · refine .inr ⟨w.goes i _ hlt (hG _), fun H' => i + 1 ≤ n ∧ H' = upd H1 D (.dK ((ks.zip vs).take (i + 1))), fun H' p' => ⟨n - (i + 1), by omega, rfl, p'⟩, fun x H' y => ?_⟩
    obtain ⟨e2, hx⟩ := hY i _ x H' (w.yields i _ x H' hlt (hG _) y)
    subst e2
    refine ⟨wipe1 σ j (some x), ?_⟩
    refine q_yes ?_
    refine iteT ?_
    have hk1 : ks[i]? = some ks[i] := List.getElem?_eq_getElem (by omega)
    have hv1 : vs[i]? = some vs[i] := List.getElem?_eq_getElem (by omega)
    refine he i x _ _ _ (fun y z H5 => ∃ kvs k, y = kV k ∧ H5 D = some (.dK kvs) ∧ kvs.length < sizeLine ∧ i + 1 ≤ n ∧ upd H5 D (.dK (putK kvs k z)) = upd H1 D (.dK ((ks.zip vs).take (i + 1)))) hx hk1 hv1 ⟨_, _, rfl, upd_same, ?_, hlt, ?_⟩
    · rw [List.length_take]; omega
    · rw [upd_upd]
      have hz : (ks.zip vs)[i]? = some (ks[i], vs[i]) := by rw [List.getElem?_zip_eq_some]; exact ⟨hk1, hv1⟩
      rw [take_snoc hz]
      congr 2
      rw [zip_take, putK_new _ (valV_none (nodup_at nd hk1))]
  · have e : i = n := by omega
    subst e
    refine .inl ⟨w.stops _ (hG _), ?_⟩
    have e : (ks.zip vs).take i = ks.zip vs := List.take_of_length_le (by rw [List.length_zip]; omega)
    rw [e]
    exact hd
/-- one instance changes, what is no list or dict stands -/
structure Mut (x : Addr) (H H' : Hp) : Prop where
  b : But x H H'
  t : TupKeep H H'
theorem Mut.refl (x : Addr) (H : Hp) : Mut x H H := ⟨fun _ _ _ h => h, .refl _⟩
theorem Mut.trans {x : Addr} {H H1 H2 : Hp} (a : Mut x H H1) (b : Mut x H1 H2) : Mut x H H2 := ⟨fun q o n h => b.b q o n (a.b q o n h), a.t.trans b.t⟩
theorem Mut.same {x : Addr} {H H' : Hp} (e : Same H H') : Mut x H H' := ⟨fun q o _ h => e q o h, .same e⟩
theorem Mut.ins {x C dx : Addr} {H : Hp} {fs : List (Str × V)} {o : HO} (h : H x = some (.ins C dx fs)) : Mut x H (upd H x o) := ⟨But.upd, fun q ys e => by
  rw [upd_ne (ne_of e h (fun z => nomatch z))]
  exact e⟩
theorem LstD.mut {H H' : Hp} {a x C dx : Addr} {fs : List (Str × V)} {ds : List PyData} (h : LstD H a ds) (hx : H x = some (.ins C dx fs)) (e : Mut x H H') : LstD H' a ds := by
  obtain ⟨xs, q, hs⟩ := h
  exact ⟨xs, e.b _ _ (ne_of q hx (fun z => nomatch z)) q, hs.keep e.t⟩
theorem isName_ok {s : Str} (h : isNameS s = true) : PyData.strOk s = true := by
  unfold isNameS at h
  rw [Bool.and_eq_true, List.all_eq_true] at h
  unfold PyData.strOk
  rw [Array.all_eq_true_iff_forall_mem]
  intro c hc
  have h2 := h.2 c (Array.mem_toList_iff.mpr hc)
  rw [Bool.and_eq_true] at h2
  have h3 : c ≤ 122 := of_decide_eq_true h2.2
  exact decide_eq_true (Nat.lt_of_le_of_lt h3 (by decide))
theorem nodup_inr {ns : List Str} (h : ns.Nodup) : (ns.map (Sum.inr : Str → Key)).Nodup := by
  unfold List.Nodup at h ⊢
  rw [List.pairwise_map]
  exact h.imp fun n e => n (by injection e)
theorem zip_inr : ∀ (ns : List Str) (rs : List V), (ns.map (Sum.inr : Str → Key)).zip rs = (ns.zip rs).map fun p => (Sum.inr p.1, p.2)
  | [], _ => by simp
  | _ :: _, [] => by simp
  | n :: ns, r :: rs => by rw [List.map_cons, List.zip_cons_cons, List.zip_cons_cons, List.map_cons, zip_inr ns rs]
theorem same_make {H H' : Hp} {x dx C : Addr} (hx : H x = none) (hd : H dx = none) (b : But x (upd (upd H dx (.own x)) x (.ins C dx [])) H') : Same H H' := fun q o h => b q o (fun z => by rw [z, hx] at h; cases h) (by
  rw [upd_ne (fun z => by rw [z, hx] at h; cases h), upd_ne (fun z => by rw [z, hd] at h; cases h)]
  exact h)
theorem TillAt.upd {c a D : Addr} {H : Hp} {t : TillD} {xs : List V} {o : HO} (h : TillAt c H a t) (hD : H D = some (.lst xs)) : TillAt c (L2.upd H D o) a t := by
  obtain ⟨dx, h⟩ := h
  refine ⟨dx, ?_⟩
  rw [upd_ne (ne_of h hD (fun z => nomatch z))]
  exact h
theorem But.free {p D : Addr} {H H' : Hp} (b : But p H H') (P : Pool H' p) (h : H' D = none) : H D = none := by
  cases e : H D with
  | none => rfl
  | some o =>
    by_cases z : D = p
    · obtain ⟨o2, h2⟩ := P.there
      rw [z, h2] at h
      cases h
    · rw [b D o z e] at h
      cases h
theorem But.mut {p D : Addr} {H0 H : Hp} {o : HO} (b : But p H0 H) (h : H0 D = none) : But p H0 (L2.upd H D o) := fun q u n e => by rw [upd_ne (ne_of_none e h)]; exact b q u n e
theorem Pool.upd {H : Hp} {p D : Addr} {o : HO} (P : Pool H p) (n : D ≠ p) : Pool (L2.upd H D o) p := by
  obtain ⟨x, z, h, hh⟩ := P.ex
  exact ⟨x, z, by rw [upd_ne n.symm]; exact h, hh⟩
/-! ### links made: a part of all pairs -/
def pairsL (as bs : List Str) : List (Str × Str) := as.flatMap fun a => bs.map fun b => (a, b)
theorem filter_sub {α : Type} [BEq α] [LawfulBEq α] {l P : List α} (h : l.Sublist P) : P.Nodup → P.filter (fun x => l.contains x) = l := by
  induction h with
  | slnil => intro _; rfl
  | @cons l P x h ih =>
    intro nd
    have nx : x ∉ P := (List.nodup_cons.mp nd).1
    have nl : ¬ l.contains x = true := fun e => nx (h.mem (by simpa using e))
    rw [List.filter_cons_of_neg nl, ih (List.nodup_cons.mp nd).2]
  | @cons_cons l P x h ih =>
    intro nd
    have nx : x ∉ P := (List.nodup_cons.mp nd).1
    rw [List.filter_cons_of_pos (by simp)]
    congr 1
    rw [← ih (List.nodup_cons.mp nd).2]
    refine List.filter_congr fun y hy => ?_
    rw [ih (List.nodup_cons.mp nd).2]
    have : (y == x) = false := by
      have : y ≠ x := fun e => nx (e ▸ hy)
      simpa using this
    rw [List.contains_cons, this, Bool.false_or]
theorem pairs_nodup {as bs : List Str} (ha : as.Nodup) (hb : bs.Nodup) : (pairsL as bs).Nodup := by
  unfold pairsL
  induction as with
  | nil => simp
  | cons a r ih =>
    rw [List.flatMap_cons, List.nodup_append]
    refine ⟨?_, ih (List.nodup_cons.mp ha).2, ?_⟩
    · unfold List.Nodup at hb ⊢
      rw [List.pairwise_map]
      exact hb.imp fun n e => n (by injection e)
    · intro x hx y hy e
      obtain ⟨b, _, rfl⟩ := List.mem_map.mp hx
      obtain ⟨a2, ha2, hy⟩ := List.mem_flatMap.mp hy
      obtain ⟨b2, _, rfl⟩ := List.mem_map.mp hy
      injection e with e1 _
      exact (List.nodup_cons.mp ha).1 (e1 ▸ ha2)
theorem prs_len (as bs : List Str) : (pairsL as bs).length = as.length * bs.length := by
  unfold pairsL
  induction as with
  | nil => simp
  | cons a r ih => rw [List.flatMap_cons, List.length_append, ih, List.length_map, List.length_cons, Nat.succ_mul, Nat.add_comm]
theorem ascL_eq (ord : List Str) (ks : List (Str × Str)) : ascL ord ks = (pairsL ord ord).filter fun l => ks.contains l := by
  unfold ascL pairsL
  rw [List.filter_flatMap]
theorem asc_sub {ord : List Str} {ks : List (Str × Str)} (h : ks.Sublist (pairsL ord ord)) (nd : ord.Nodup) : ks = ascL ord ks := by
  rw [ascL_eq, filter_sub h (pairs_nodup nd nd)]
theorem pairs_take {as bs : List Str} {i : Nat} {a : Str} (h : as[i]? = some a) : pairsL (as.take (i + 1)) bs = pairsL (as.take i) bs ++ bs.map fun b => (a, b) := by
  unfold pairsL
  rw [take_snoc h, List.flatMap_append, List.flatMap_cons, List.flatMap_nil, List.append_nil]
theorem cutV_from (xs : List V) (k : Nat) : cutV xs (some (k : Int)) none = xs.drop k := by
  unfold cutV
  rw [HT.sIx_nat, HT.sIx_none, List.take_of_length_le (by rw [List.length_drop]; omega)]
  by_cases h : k ≤ xs.length
  · rw [Nat.min_eq_left h]
  · rw [Nat.min_eq_right (by omega), List.drop_of_length_le (Nat.le_refl _), List.drop_of_length_le (by omega)]
theorem q_slL {K : PySem.W.Frag} {H : Hp} {a : Addr} {xs : List V} {lo hi : Option Int} {Q : VK} (h : SqL K H a xs) (q : ∀ p, H p = none → Q (.ref p) (upd H p (.lst (cutV xs lo hi)))) : rSlL K (.ref a) lo hi H Q := ⟨a, xs, rfl, h, q⟩
theorem sorted_lt {ks : List Str} (h : sortedS ks = true) (nd : ks.Nodup) {i j : Nat} {a b : Str} (hij : i < j) (ha : ks[i]? = some a) (hb : ks[j]? = some b) : a.cps.toList < b.cps.toList := by
  have h1 := sortedS_pw h
  obtain ⟨hi, ha⟩ := List.getElem?_eq_some_iff.mp ha
  obtain ⟨hj, hb⟩ := List.getElem?_eq_some_iff.mp hb
  have h2 : leS a b := by
    have := List.pairwise_iff_getElem.mp h1 i j hi hj hij
    rw [ha, hb] at this
    exact this
  by_cases e : a.cps.toList < b.cps.toList
  · exact e
  · have h3 : b.cps.toList ≤ a.cps.toList := e
    have h4 : a = b := str_ext (List.le_antisymm h2 h3)
    subst h4
    have := List.pairwise_iff_getElem.mp nd i j hi hj hij
    rw [ha, hb] at this
    exact absurd rfl this
theorem But.step {p f : Addr} {H0 H H' : Hp} (b : But p H0 H) (hf : H0 f = none) (g : But f H H') : But p H0 H' := fun q o n h => g q o (fun z => by rw [z, hf] at h; cases h) (b q o n h)
theorem Pool.step {p f : Addr} {H H' : Hp} (P : Pool H p) (n : f ≠ p) (g : But f H H') : Pool H' p := by
  obtain ⟨x, z, h, hh⟩ := P.ex
  exact ⟨x, z, g p _ n.symm h, hh⟩
theorem Mut.pool {p : Addr} {H H' : Hp} (P : Pool H p) (b : But p H H') : Mut p H H' := ⟨b, .but P b⟩
theorem Mut.dK {x : Addr} {H : Hp} {kvs : List (Key × V)} {o : HO} (h : H x = some (.dK kvs)) : Mut x H (upd H x o) := ⟨But.upd, fun q ys e => by
  rw [upd_ne (ne_of e h (fun z => nomatch z))]
  exact e⟩
theorem LstD.mutp {H H' : Hp} {a x : Addr} {ds : List PyData} (h : LstD H a ds) (n : a ≠ x) (e : Mut x H H') : LstD H' a ds := by
  obtain ⟨xs, q, hs⟩ := h
  exact ⟨xs, e.b _ _ n q, hs.keep e.t⟩
theorem q_disp {trs : List (TE × TE)} {σ : L2.St} {H : Hp} {Q : VK} (h : ∀ p, H p = none → tPairs trs σ (upd H p (.dK [])) fun ps H2 => H2 p = some (.dK []) ∧ ∃ kvs : List (Key × V), ps = kvs.map (fun kv => (kV kv.1, kv.2)) ∧ kvs.length ≤ 15 ∧ Q (.ref p) (upd H2 p (.dK (mergeK [] kvs)))) : tDisp trs σ H Q := h
theorem q_pnil {σ : L2.St} {H : Hp} {Q : List (V × V) → Hp → Prop} (h : Q [] H) : tPairs [] σ H Q := h
theorem q_pcons {tk tv : TE} {r : List (TE × TE)} {σ : L2.St} {H : Hp} {Q : List (V × V) → Hp → Prop} (h : tk σ H fun x H1 => tv σ H1 fun y H2 => tPairs r σ H2 fun ps H3 => Q ((x, y) :: ps) H3) : tPairs ((tk, tv) :: r) σ H Q := h
theorem q_setD {H : Hp} {a : Addr} {kvs : List (Key × V)} {s : Str} {v : V} {Q : Hp → Prop} (h : H a = some (.dK kvs)) (hl : kvs.length < sizeLine) (q : Q (upd H a (.dK (putK kvs (.inr s) v)))) : rSetD (.ref a) (.str s) v H Q := ⟨a, _, rfl, DPut.k (k := Sum.inr s) h hl, q⟩
theorem model4 (a b c d : V) : mergeK [] [((Sum.inr "tills" : Key), a), (.inr "links", b), (.inr "money", c), (.inr "memory", d)] = [((Sum.inr "tills" : Key), a), (.inr "links", b), (.inr "money", c), (.inr "memory", d)] := by
  show putK (putK (putK (putK [] (Sum.inr "tills" : Key) a) (.inr "links") b) (.inr "money") c) (.inr "memory") d = _
  rw [putK_new a (by rfl), List.nil_append, putK_new b (((valV_miss (by decide +kernel)).trans rfl)), putK_new c (by rw [List.singleton_append]; exact (((valV_miss (by decide +kernel)).trans ((valV_miss (by decide +kernel)).trans rfl)))), putK_new d (by simp only [List.singleton_append, List.cons_append, List.nil_append]; exact (((valV_miss (by decide +kernel)).trans ((valV_miss (by decide +kernel)).trans ((valV_miss (by decide +kernel)).trans rfl)))))]
  rfl
theorem model6 (a b c d e f : V) : putK (putK [((Sum.inr "tills" : Key), a), (.inr "links", b), (.inr "money", c), (.inr "memory", d)] (.inr "tops") e) (.inr "numbered") f = [((Sum.inr "tills" : Key), a), (.inr "links", b), (.inr "money", c), (.inr "memory", d), (.inr "tops", e), (.inr "numbered", f)] := by
  rw [putK_new e (((valV_miss (by decide +kernel)).trans ((valV_miss (by decide +kernel)).trans ((valV_miss (by decide +kernel)).trans ((valV_miss (by decide +kernel)).trans rfl))))), putK_new f (by simp only [List.cons_append, List.nil_append]; exact (((valV_miss (by decide +kernel)).trans ((valV_miss (by decide +kernel)).trans ((valV_miss (by decide +kernel)).trans ((valV_miss (by decide +kernel)).trans ((valV_miss (by decide +kernel)).trans rfl)))))))]
  rfl
/-! ### values that are no events -/
def oddN (s : Str) : Prop := s.length ≠ 5 ∧ s ≠ "cut"
def okNs (ns : List Str) : Prop := ∀ n ∈ ns, isNameS n = true ∧ oddN n
def OddV (H : Hp) (v : V) : Prop := AnyE H v ∧ ∀ ns : List Str, okNs ns → isEvH ns H v = false
theorem OddV.same {H H' : Hp} {v : V} (h : OddV H v) (e : Same H H') : OddV H' v := ⟨h.1.same e, fun ns hn => by rw [isEvH_same h.1.1 e]; exact h.2 ns hn⟩
def OddL (H : Hp) (l : Addr) (n : Nat) : Prop := ∃ xs, H l = some (.lst xs) ∧ xs.length = n ∧ ∀ v ∈ xs, OddV H v
theorem OddL.same {H H' : Hp} {l : Addr} {n : Nat} (h : OddL H l n) (e : Same H H') : OddL H' l n := by
  obtain ⟨xs, h1, h2, h3⟩ := h
  exact ⟨xs, e _ _ h1, h2, fun v hv => (h3 v hv).same e⟩
theorem q_catO {H : Hp} {l b : Addr} {n m : Nat} {Q : VK} (h1 : OddL H l n) (h2 : OddL H b m) (hl : n + m ≤ 1000) (q : ∀ p H', H p = none → Same H H' → OddL H' p (n + m) → Q (.ref p) H') : rCat (.ref l) (.ref b) H Q := by
  obtain ⟨xs, e1, l1, t1⟩ := h1
  obtain ⟨ys, e2, l2, t2⟩ := h2
  refine ⟨l, b, xs, ys, rfl, rfl, e1, e2, ?_, fun p hp => q p _ hp (Same.new hp) ⟨_, upd_same, by rw [List.length_append, l1, l2], fun v hv => ?_⟩⟩
  · rw [l1, l2]
    exact Nat.le_trans hl (by decide)
  · rcases List.mem_append.mp hv with hv | hv
    · exact (t1 v hv).same (Same.new hp)
    · exact (t2 v hv).same (Same.new hp)
theorem OddV.tup {H : Hp} {a : Addr} {xs : List V} (h : H a = some (.tup xs)) (e : ∀ ns : List Str, okNs ns → evT ns xs = false) (hx : ∀ y ∈ xs, Any H y ∧ ∀ s, y = .str s → s.length ≤ 100000) : OddV H (.ref a) := ⟨.tup h hx, fun ns hn => by rw [isEvH_tup h]; exact e ns hn⟩
theorem OddV.lst {H : Hp} {a : Addr} {xs : List V} (h : H a = some (.lst xs)) : OddV H (.ref a) := ⟨.lst h, fun ns _ => by simp [isEvH, h]⟩
theorem OddV.dK {H : Hp} {a : Addr} {xs : List (Key × V)} (h : H a = some (.dK xs)) : OddV H (.ref a) := ⟨.dK h, fun ns _ => by simp [isEvH, h]⟩
theorem OddV.flat {H : Hp} {v : V} (h : Any H v) (hr : ∀ a, v ≠ .ref a) : OddV H v := ⟨.flat h hr, fun ns _ => by
  cases v <;> first | rfl | exact absurd rfl (hr _)⟩
section
variable {ns : List Str} {w : Str} {y u : V}
theorem ev1 (h : w ≠ "lose") : evT ns [.str w] = false := decide_eq_false h
theorem evT2 : evT ns [.str w, y] = if w = "top" then isUnits y else (decide (w = "cut") || decide (w = "line") || decide (w = "again")) && inNames ns y := rfl
theorem ev2top (h : isUnits y = false) : evT ns [.str "top", y] = false := by
  rw [evT2, if_pos rfl]
  exact h
theorem ev2no (h0 : w ≠ "top") (h1 : w ≠ "cut") (h2 : w ≠ "line") (h3 : w ≠ "again") : evT ns [.str w, y] = false := by
  show (if w = "top" then isUnits y else (decide (w = "cut") || decide (w = "line") || decide (w = "again")) && inNames ns y) = false
  rw [if_neg h0, decide_eq_false h1, decide_eq_false h2, decide_eq_false h3]
  rfl
theorem ev2nm (h0 : w = "top" → isUnits y = false) (h : inNames ns y = false) : evT ns [.str w, y] = false := by
  show (if w = "top" then isUnits y else (decide (w = "cut") || decide (w = "line") || decide (w = "again")) && inNames ns y) = false
  by_cases e : w = "top"
  · rw [if_pos e]
    exact h0 e
  · rw [if_neg e, h, Bool.and_false]
theorem ev3w (h : w ≠ "pay") : evT ns [.str w, y, u] = false := by
  show (decide (w = "pay") && inNames ns y && isUnits u) = false
  rw [decide_eq_false h]
  rfl
theorem ev3n (h : inNames ns y = false) : evT ns [.str w, y, u] = false := by
  show (decide (w = "pay") && inNames ns y && isUnits u) = false
  rw [h, Bool.and_false, Bool.false_and]
theorem ev3u (h : isUnits u = false) : evT ns [.str w, y, u] = false := by
  show (decide (w = "pay") && inNames ns y && isUnits u) = false
  rw [h, Bool.and_false]
theorem nin5 {s : Str} (h : okNs ns) (hs : s.length = 5) : inNames ns (.str s) = false := decide_eq_false fun z => (h s z).2.1 hs
theorem ninN {s : Str} (h : okNs ns) (hs : isNameS s = false) : inNames ns (.str s) = false := decide_eq_false fun z => by rw [(h s z).1] at hs; cases hs
theorem ninC (h : okNs ns) : inNames ns (.str "cut") = false := decide_eq_false fun z => (h _ z).2.2 rfl
end
def isStrV : V → Bool
  | .str _ => true
  | _ => false
def isRefV : V → Bool
  | .ref _ => true
  | _ => false
theorem isStrV_no {y : V} (h : isStrV y = false) : ∀ s, y ≠ .str s := fun s e => by rw [e] at h; cases h
theorem evT_nstrB {ns : List Str} {y : V} {r : List V} (h : isStrV y = false) : evT ns (y :: r) = false := evT_nstr (isStrV_no h)
theorem inNames_notB {ns : List Str} {y : V} (h : isStrV y = false) : inNames ns y = false := inNames_not (isStrV_no h)
theorem OddV.flatB {H : Hp} {v : V} (h : isRefV v = false) (a : Any H v) : OddV H v := OddV.flat a (fun s e => by rw [e] at h; cases h)
theorem oi_n {H : Hp} {y : V} (h : isStrV y = false) (a : Any H y) : Any H y ∧ ∀ s, y = .str s → s.length ≤ 100000 := ⟨a, fun s e => absurd e (isStrV_no h s)⟩
theorem oi_s {H : Hp} {z : Str} (h : z.length ≤ 100000) : Any H (.str z) ∧ ∀ s, V.str z = .str s → s.length ≤ 100000 := ⟨.str z, fun s e => by cases e; exact h⟩
/-! ### events as data -/
theorem canAll {xs : List PyData} (h : ∀ x ∈ xs, x.canLay0 = true) : PyData.canLayAll0 xs = true := by
  induction xs with
  | nil => simp [PyData.canLayAll0]
  | cons a r ih => simp [PyData.canLayAll0, h a (by simp), ih (fun x hx => h x (by simp [hx]))]
theorem depAll {xs : List PyData} {n : Nat} (h : ∀ x ∈ xs, x.depth ≤ n) : PyData.depthAll xs ≤ n + 1 := by
  induction xs with
  | nil => simp [PyData.depthAll]
  | cons a r ih =>
    have h1 := h a (by simp)
    have h2 := ih (fun x hx => h x (by simp [hx]))
    simp only [PyData.depthAll]
    omega
theorem allEv_mem {ns : List Str} {d : PyData} (h : d ∈ allEv ns) : (∃ w n, d = wordP w n ∧ n ∈ ns ∧ (w = "cut" ∨ w = "line" ∨ w = "again")) ∨ (∃ n u, d = payP n u ∧ n ∈ ns ∧ (u = 1 ∨ u = 2)) ∨ (∃ u, d = .tuple [.str "top", .int u] ∧ (u = 1 ∨ u = 2)) ∨ d = .tuple [.str "lose"] := by
  unfold allEv at h
  rw [List.mem_append, List.mem_append, List.mem_append, List.mem_append] at h
  rcases h with (((h | h) | h) | h) | h
  · obtain ⟨n, hn, rfl⟩ := List.mem_map.mp h
    exact .inl ⟨_, n, rfl, hn, .inl rfl⟩
  · obtain ⟨n, hn, rfl⟩ := List.mem_map.mp h
    exact .inl ⟨_, n, rfl, hn, .inr (.inl rfl)⟩
  · obtain ⟨n, hn, h⟩ := List.mem_flatMap.mp h
    simp only [List.mem_cons, List.not_mem_nil, or_false] at h
    rcases h with rfl | rfl
    · exact .inr (.inl ⟨n, 1, rfl, hn, .inl rfl⟩)
    · exact .inr (.inl ⟨n, 2, rfl, hn, .inr rfl⟩)
  · simp only [List.mem_cons, List.not_mem_nil, or_false] at h
    rcases h with rfl | rfl | rfl
    · exact .inr (.inr (.inl ⟨1, rfl, .inl rfl⟩))
    · exact .inr (.inr (.inl ⟨2, rfl, .inr rfl⟩))
    · exact .inr (.inr (.inr rfl))
  · obtain ⟨n, hn, rfl⟩ := List.mem_map.mp h
    exact .inl ⟨_, n, rfl, hn, .inr (.inr rfl)⟩
theorem word_ok : ∀ w ∈ [("cut" : Str), "line", "again", "pay", "top", "lose"], PyData.strOk w = true := by decide +kernel
theorem allEv_can {ns : List Str} (hn : ∀ n ∈ ns, PyData.strOk n = true) {d : PyData} (h : d ∈ allEv ns) : d.canLay0 = true ∧ d.depth ≤ 1 := by
  rcases allEv_mem h with ⟨w, n, rfl, h1, h2⟩ | ⟨n, u, rfl, h1, h2⟩ | ⟨u, rfl, h2⟩ | rfl
  · have hw : PyData.strOk w = true := by
      rcases h2 with rfl | rfl | rfl <;> exact word_ok _ (by simp)
    have h3 := hn n h1
    refine ⟨?_, ?_⟩
    · simp [wordP, PyData.canLay0, PyData.canLayAll0, hw, h3]
    · simp [wordP, PyData.depth, PyData.depthAll]
  · have hw : PyData.strOk "pay" = true := word_ok _ (by simp)
    have h3 := hn n h1
    refine ⟨?_, ?_⟩
    · simp [payP, PyData.canLay0, PyData.canLayAll0, hw, h3]
    · simp [payP, PyData.depth, PyData.depthAll]
  · have hw : PyData.strOk "top" = true := word_ok _ (by simp)
    refine ⟨?_, ?_⟩
    · simp [PyData.canLay0, PyData.canLayAll0, hw]
    · simp [PyData.depth, PyData.depthAll]
  · have hw : PyData.strOk "lose" = true := word_ok _ (by simp)
    refine ⟨?_, ?_⟩
    · simp [PyData.canLay0, PyData.canLayAll0, hw]
    · simp [PyData.depth, PyData.depthAll]
theorem allEv_shaped {ns : List Str} (hn : ∀ n ∈ ns, PyData.strOk n = true) : SeqAt.shaped (.list (allEv ns)) = true ∧ PyData.canLay0 (.list (allEv ns)) = true := by
  have h1 : PyData.canLayAll0 (allEv ns) = true := canAll fun x hx => (allEv_can hn hx).1
  have h2 := depAll (fun x hx => (allEv_can hn hx).2 : ∀ x ∈ allEv ns, x.depth ≤ 1)
  have h3 : PyData.canLay0 (.list (allEv ns)) = true := by simp only [PyData.canLay0]; exact h1
  refine ⟨?_, h3⟩
  show (PyData.canLay0 (.list (allEv ns)) && decide (PyData.depth (.list (allEv ns)) ≤ 64)) = true
  rw [h3, Bool.true_and]
  refine decide_eq_true ?_
  simp only [PyData.depth]
  omega
theorem allEv_is {ns : List Str} (hn : ∀ n ∈ ns, n.length ≤ 8) {H : Hp} {v : V} {d : PyData} (h : d ∈ allEv ns) (t : Td H v d) : ∃ a xs, v = .ref a ∧ H a = some (.tup xs) ∧ evT ns xs = true ∧ ∀ y ∈ xs, Any H y ∧ ∀ s, y = .str s → s.length ≤ 100000 := by
  rcases allEv_mem h with ⟨w, n, rfl, h1, h2⟩ | ⟨n, u, rfl, h1, h2⟩ | ⟨u, rfl, h2⟩ | rfl
  · cases t with
    | tup ht hs =>
      cases hs with
      | cons a1 hs =>
        cases a1
        cases hs with
        | cons a2 hs =>
          cases a2
          cases hs
          have h8 := hn n h1
          refine ⟨_, _, rfl, ht, ?_, List.forall_mem_cons.mpr ⟨oi_s ?_, List.forall_mem_cons.mpr ⟨oi_s (by omega), List.forall_mem_nil _⟩⟩⟩
          · have hin : inNames ns (.str n) = true := decide_eq_true h1
            rw [evT2, hin]
            rcases h2 with rfl | rfl | rfl
            · rw [if_neg (by decide +kernel)]; decide +kernel
            · rw [if_neg (by decide +kernel)]; decide +kernel
            · rw [if_neg (by decide +kernel)]; decide +kernel
          · rcases h2 with rfl | rfl | rfl <;> decide +kernel
  · cases t with
    | tup ht hs =>
      cases hs with
      | cons a1 hs =>
        cases a1
        cases hs with
        | cons a2 hs =>
          cases a2
          cases hs with
          | cons a3 hs =>
            cases a3
            cases hs
            have h8 := hn n h1
            refine ⟨_, _, rfl, ht, ?_, List.forall_mem_cons.mpr ⟨oi_s (by decide +kernel), List.forall_mem_cons.mpr ⟨oi_s (by omega), List.forall_mem_cons.mpr ⟨oi_n rfl (.int _), List.forall_mem_nil _⟩⟩⟩⟩
            have hin : inNames ns (.str n) = true := decide_eq_true h1
            show (decide (("pay" : Str) = "pay") && inNames ns (.str n) && isUnits (.int u)) = true
            rw [hin]
            rcases h2 with rfl | rfl <;> decide +kernel
  · cases t with
    | tup ht hs =>
      cases hs with
      | cons a1 hs =>
        cases a1
        cases hs with
        | cons a2 hs =>
          cases a2
          cases hs
          refine ⟨_, _, rfl, ht, ?_, List.forall_mem_cons.mpr ⟨oi_s (by decide +kernel), List.forall_mem_cons.mpr ⟨oi_n rfl (.int _), List.forall_mem_nil _⟩⟩⟩
          rw [evT2, if_pos rfl]
          rcases h2 with rfl | rfl <;> decide +kernel
  · cases t with
    | tup ht hs =>
      cases hs with
      | cons a1 hs =>
        cases a1
        cases hs
        exact ⟨_, _, rfl, ht, (show decide (("lose" : Str) = "lose") = true by decide +kernel), List.forall_mem_cons.mpr ⟨oi_s (by decide +kernel), List.forall_mem_nil _⟩⟩
theorem allEv_len {ns : List Str} (h : ns.length ≤ 4) : (allEv ns).length ≤ 100 := by
  unfold allEv
  rw [List.length_append, List.length_append, List.length_append, List.length_append, List.length_map, List.length_map, List.length_map, flat2_len]
  show ns.length + ns.length + _ + 3 + ns.length ≤ 100
  omega
theorem isName_pos {s : Str} (h : isNameS s = true) : s.length ≠ 0 := by
  unfold isNameS at h
  rw [Bool.and_eq_true, Bool.and_eq_true] at h
  have := of_decide_eq_true h.1.1
  omega
end Kx

local macro_rules | `(tactic| tm_at "xst1") => `(tactic| first
  | (with_reducible refine Kx.q_seq ?_) | (with_reducible refine Kx.q_next ?_) | (with_reducible refine Kx.q_asgN ?_) | (with_reducible refine Kx.q_asg ?_) | (with_reducible refine Kx.q_ret ?_) | (with_reducible refine Kx.q_ifS ?_) | (with_reducible refine Kx.q_drop ?_)
  | ((with_reducible refine Kx.q_var ?_); (refine ⟨_, rfl, ?_⟩)) | (with_reducible refine Kx.q_c ?_) | (with_reducible refine Kx.q_op ?_) | (with_reducible refine Kx.q_un ?_) | (with_reducible refine Kx.q_cb ?_)
  | (with_reducible refine Kx.q_test ?_) | (with_reducible refine Kx.q_B ?_) | (with_reducible refine Kx.q_bl ?_) | (with_reducible refine Kx.q_blI ?_) | (with_reducible refine Kx.q_and ?_) | (with_reducible refine Kx.q_or ?_) | (with_reducible refine Kx.q_not ?_) | (with_reducible refine Kx.q_yes ?_)
  | (with_reducible refine Kx.q_andV ?_) | (with_reducible refine Kx.q_orV ?_) | (with_reducible refine Kx.q_notV ?_) | (with_reducible refine Kx.q_if ?_) | (with_reducible refine Kx.q_chain ?_)
  | (with_reducible refine Kx.q_call ?_) | (with_reducible refine Kx.q_nil ?_) | (with_reducible refine Kx.q_cons ?_) | (with_reducible refine Kx.q_tup ?_) | (with_reducible refine Kx.q_lst ?_)
  | (with_reducible refine Kx.q_sl ?_) | (with_reducible refine Kx.q_noPart ?_) | (with_reducible refine Kx.q_part ?_) | (with_reducible refine Kx.q_int ?_) | (with_reducible refine Kx.q_par ?_) | (with_reducible refine Kx.q_two ?_)
  | (with_reducible refine Kx.q_I0 ?_) | (with_reducible refine Kx.q_U ?_) | ((with_reducible refine Kx.q_eq ?_ ?_); (· exact rfl)) | ((with_reducible refine Kx.q_ne ?_ ?_); (· exact rfl)) | (with_reducible refine Kx.q_isB ?_) | (with_reducible refine Kx.q_notB ?_)
  | (with_reducible refine Kx.q_gSub ?_) | (with_reducible refine Kx.q_int1 ?_) | (with_reducible refine Kx.q_int1b ?_) | (with_reducible refine Kx.q_max2 ?_)
  | ((with_reducible refine Kx.q_new ?_ ?_); (· exact Nat.le_of_ble_eq_true rfl); intro p hp) | ((with_reducible refine Kx.q_dnewK ?_); intro p hp) | (with_reducible refine Kx.q_for ?_) | (with_reducible refine Kx.q_iList ?_) | (with_reducible refine Kx.q_iRng1 ?_)
  | (with_reducible refine Kx.q_iEnT ?_) | (with_reducible refine Kx.q_dc ?_) | ((with_reducible refine Kx.q_disp ?_); intro dp hdp) | (with_reducible refine Kx.q_pnil ?_) | (with_reducible refine Kx.q_pcons ?_)
  | (with_reducible refine Kx.q_meth ?_) | (with_reducible refine Kx.q_bm ?_) | (with_reducible refine Kx.q_make ?_) | (with_reducible refine Kx.q_makeK ?_) | (with_reducible refine Kx.q_lc2 ?_) | (with_reducible refine Kx.q_dgetE ?_) | (with_reducible refine Kx.q_lenE ?_) | (with_reducible refine Kx.q_iTup ?_) | (with_reducible refine Kx.q_gCons ?_) | (with_reducible refine Kx.q_gNil ?_) | (with_reducible refine Kx.q_fldE ?_) | (with_reducible refine Kx.q_sfldE ?_) | (with_reducible refine Kx.q_gName ?_) | (with_reducible refine Kx.q_m1 ?_) | (with_reducible refine Kx.q_strI ?_) | (with_reducible refine Kx.q_lc ?_)
  | (with_reducible refine Kx.q_iEnum ?_)
  | ((with_reducible refine Kx.q_dnewT ?_); intro p hp)
  | (with_reducible refine L2.iteT ?_) | (with_reducible refine L2.iteF ?_))
/-- as far as it goes -/
local macro_rules | `(tactic| tm_at "xst") => `(tactic| repeat' (tm_at "xst1"))
/-- what stands at an address of a heap that grew -/
local macro_rules | `(tactic| tm_at "xlook") => `(tactic| first | assumption | exact L2.upd_same | (refine Kx.at_new (by assumption) ?_; tm_at "xlook") | (refine Kx.at_same (by assumption) ?_; tm_at "xlook"))
local macro_rules | `(tactic| tm_at "xany") => `(tactic| first | assumption | exact Kx.Any.non | exact Kx.Any.bl _ | exact Kx.Any.int _ | exact Kx.Any.str _ | (apply Kx.Any.lst; (tm_at "xlook")) | (apply Kx.Any.tup; (tm_at "xlook")) | (apply Kx.Any.dK; (tm_at "xlook")))
local macro_rules | `(tactic| tm_at "xpool") => `(tactic| first | assumption | (refine Kx.Pool.but ?_ (by assumption); tm_at "xpool") | (refine Kx.Pool.same ?_ (show L2.Same _ _ by assumption); tm_at "xpool"))
/-- all items of a written list -/
local macro_rules | `(tactic| tm_at "xeach") => `(tactic| first | exact List.forall_mem_nil _ | (refine List.forall_mem_cons.mpr ⟨?_, ?_⟩; rotate_left; (tm_at "xeach")))
local macro_rules | `(tactic| tm_at "xsame") => `(tactic| first | assumption | exact L2.Same.refl _ | (refine L2.Same.trans ?_ (Kx.Same.new (by assumption)); tm_at "xsame") | (refine L2.Same.trans ?_ (show L2.Same _ _ by assumption); tm_at "xsame") | (refine Kx.Same.but ?_ (by assumption) (by assumption); tm_at "xsame"))
local macro_rules | `(tactic| tm_at "xany2") => `(tactic| first | (apply Kx.Any2.lst; (tm_at "xlook")) | (apply Kx.Any2.dK; (tm_at "xlook")) | (apply Kx.Any2.tup; (· tm_at "xlook"); ((tm_at "xeach"); all_goals (tm_at "xany"))) | (refine Kx.Any2.flat ?_ ?_; (· tm_at "xany"); (intro _ z; cases z)))
/-- a test whose answer computes -/
local macro_rules | `(tactic| tm_at "xdec") => `(tactic| first | (refine Kx.i_yes rfl ?_) | (refine Kx.i_no rfl ?_))
/-- a field of a written list -/
local macro_rules | `(tactic| tm_at "xlk") => `(tactic| first | exact Kx.lookup_hit | (refine (Kx.lookup_miss (by decide +kernel)).trans ?_; tm_at "xlk") | rfl)
local macro_rules | `(tactic| tm_at "xlen") => `(tactic| first | decide | (refine Kx.putF_lt ?_; tm_at "xlen"))
local macro_rules | `(tactic| tm_at "xval") => `(tactic| first | exact Kx.valV_hit | (refine (Kx.valV_miss (by decide +kernel)).trans ?_; tm_at "xval") | rfl)
/-- data of tuples, item by item -/
local macro_rules | `(tactic| tm_at "xtd") => `(tactic| first | assumption | exact Kx.Td.non | exact Kx.Td.bl _ | exact Kx.Td.int _ | exact Kx.Td.str _ | exact Kx.TdAll.nil | (refine Kx.TdAll.cons ?_ ?_; (· tm_at "xtd"); (· tm_at "xtd")) | (apply Kx.Td.tup; (· tm_at "xlook"); (· tm_at "xtd")))
/-- what is no event -/
local macro_rules | `(tactic| tm_at "xevt") => `(tactic| first | rfl | exact Kx.evT_long (Nat.le_of_ble_eq_true rfl) | exact Kx.ev1 (by decide +kernel) | exact Kx.ev2top (by decide +kernel) | exact Kx.ev2no (by decide +kernel) (by decide +kernel) (by decide +kernel) (by decide +kernel) | exact Kx.ev3w (by decide +kernel) | exact Kx.ev3u (by decide +kernel) | exact Kx.evT_nstrB rfl | exact Kx.ev3n (Kx.nin5 (by assumption) (by decide +kernel)) | exact Kx.ev3n (Kx.inNames_notB rfl) | exact Kx.ev2nm (fun z => absurd z (by decide +kernel)) (Kx.nin5 (by assumption) (by decide +kernel)) | exact Kx.ev2nm (fun z => absurd z (by decide +kernel)) (Kx.ninN (by assumption) (by decide +kernel)) | exact Kx.ev2nm (fun z => absurd z (by decide +kernel)) (Kx.inNames_notB rfl) | exact Kx.ev2nm (fun _ => by decide +kernel) (Kx.ninC (by assumption)))
local macro_rules | `(tactic| tm_at "xoi") => `(tactic| first | (refine Kx.oi_n rfl ?_; tm_at "xany") | (refine Kx.oi_s ?_; first | decide +kernel | omega))
local macro_rules | `(tactic| tm_at "xodd") => `(tactic| first | (exact Kx.OddV.lst (by tm_at "xlook")) | (exact Kx.OddV.dK (by tm_at "xlook")) | (refine Kx.OddV.flatB rfl ?_; tm_at "xany") | (apply Kx.OddV.tup; (· tm_at "xlook"); (· (intro ns hns; tm_at "xevt")); (· (tm_at "xeach"; all_goals (tm_at "xoi")))))

namespace Toy
open PySem L2 Kx
def topS (i : Nat) : Stmt := PySem.Challenge.pw_cutofftills_k07_events.main.body.getD i (.Pass ⟨0, 0, 0, 0⟩)
abbrev s__law_words_of : Stmt := (topS 45)
abbrev s__law_all : Stmt := (topS 46)
abbrev s_is_integer : Stmt := (topS 7)
abbrev s_is_integer_to : Stmt := (topS 8)
abbrev s_is_limit : Stmt := (topS 13)
abbrev s_is_name : Stmt := (topS 12)
abbrev s_is_truth : Stmt := (topS 9)
abbrev s_Till_init : Stmt := (inClass (topS 29) 0)
abbrev s_ascending_links : Stmt := (topS 35)
abbrev s_is_link : Stmt := (topS 33)
abbrev s_is_list : Stmt := (topS 10)
abbrev s_check_links : Stmt := (topS 34)
abbrev s_is_word : Stmt := (topS 11)
abbrev s_is_memory : Stmt := (topS 14)
abbrev s_check_parts : Stmt := (topS 36)
abbrev s_check_tills : Stmt := (topS 32)
abbrev s_Town_init : Stmt := (inClass (topS 37) 0)
abbrev s__law_made : Stmt := (topS 44)
abbrev s__law_draw : Stmt := (topS 40)
abbrev s__law_pick : Stmt := (topS 41)
abbrev s__law_names : Stmt := (topS 42)
abbrev s__law_model : Stmt := (topS 43)
abbrev s__law_odds : Stmt := (topS 47)
abbrev s__law_pool : Stmt := (topS 39)
abbrev s_Town_names : Stmt := (inClass (topS 37) 6)
abbrev s_events_of : Stmt := (topS 20)
abbrev s_Town_contains : Stmt := (inClass (topS 37) 4)
abbrev s_is_units : Stmt := (topS 18)
abbrev s_is_event : Stmt := (topS 19)
abbrev s_law : Stmt := (topS 48)
theorem sc__law_words_of : FnScope ["_law_model_here", "_law_till"] ["_law_model_here"] (defScope s__law_words_of) := ⟨rfl, rfl, rfl, by decide +kernel, rfl, by decide +kernel, by decide +kernel⟩
theorem sc__law_all : FnScope ["_law_model_here", "_law_names_here", "_law_found", "_law_name"] ["_law_model_here"] (defScope s__law_all) := ⟨rfl, rfl, rfl, by decide +kernel, rfl, by decide +kernel, by decide +kernel⟩
theorem sc_is_integer : FnScope ["value"] ["value"] (defScope s_is_integer) := ⟨rfl, rfl, rfl, by decide +kernel, rfl, by decide +kernel, by decide +kernel⟩
theorem sc_is_integer_to : FnScope ["value", "top"] ["value", "top"] (defScope s_is_integer_to) := ⟨rfl, rfl, rfl, by decide +kernel, rfl, by decide +kernel, by decide +kernel⟩
theorem sc_is_limit : FnScope ["value"] ["value"] (defScope s_is_limit) := ⟨rfl, rfl, rfl, by decide +kernel, rfl, by decide +kernel, by decide +kernel⟩
theorem sc_is_name : FnScope ["value", "letter"] ["value"] (defScope s_is_name) := ⟨rfl, rfl, rfl, by decide +kernel, rfl, by decide +kernel, by decide +kernel⟩
theorem sc_is_truth : FnScope ["value"] ["value"] (defScope s_is_truth) := ⟨rfl, rfl, rfl, by decide +kernel, rfl, by decide +kernel, by decide +kernel⟩
theorem sc_Till_init : FnScope ["self", "name", "limit", "heeds"] ["self", "name", "limit", "heeds"] (defScope s_Till_init) := ⟨rfl, rfl, rfl, by decide +kernel, rfl, by decide +kernel, by decide +kernel⟩
theorem sc_ascending_links : FnScope ["names", "links", "ordered", "name", "one", "other"] ["names", "links"] (defScope s_ascending_links) := ⟨rfl, rfl, rfl, by decide +kernel, rfl, by decide +kernel, by decide +kernel⟩
theorem sc_is_link : FnScope ["names", "value", "one", "other"] ["names", "value"] (defScope s_is_link) := ⟨rfl, rfl, rfl, by decide +kernel, rfl, by decide +kernel, by decide +kernel⟩
theorem sc_is_list : FnScope ["value"] ["value"] (defScope s_is_list) := ⟨rfl, rfl, rfl, by decide +kernel, rfl, by decide +kernel, by decide +kernel⟩
theorem sc_check_links : FnScope ["names", "links", "earlier", "index", "link"] ["names", "links"] (defScope s_check_links) := ⟨rfl, rfl, rfl, by decide +kernel, rfl, by decide +kernel, by decide +kernel⟩
theorem sc_is_word : FnScope ["value", "word"] ["value", "word"] (defScope s_is_word) := ⟨rfl, rfl, rfl, by decide +kernel, rfl, by decide +kernel, by decide +kernel⟩
theorem sc_is_memory : FnScope ["value", "kind", "most"] ["value"] (defScope s_is_memory) := ⟨rfl, rfl, rfl, by decide +kernel, rfl, by decide +kernel, by decide +kernel⟩
theorem sc_check_parts : FnScope ["money", "memory", "tops", "numbered"] ["money", "memory", "tops", "numbered"] (defScope s_check_parts) := ⟨rfl, rfl, rfl, by decide +kernel, rfl, by decide +kernel, by decide +kernel⟩
theorem sc_check_tills : FnScope ["tills", "names", "index", "till"] ["tills"] (defScope s_check_tills) := ⟨rfl, rfl, rfl, by decide +kernel, rfl, by decide +kernel, by decide +kernel⟩
theorem sc_Town_init : FnScope ["self", "tills", "links", "money", "memory", "tops", "numbered", "names", "till"] ["self", "tills", "links", "money", "memory", "tops", "numbered"] (defScope s_Town_init) := ⟨rfl, rfl, rfl, by decide +kernel, rfl, by decide +kernel, by decide +kernel⟩
theorem sc__law_made : FnScope ["_law_model_here", "_law_tills", "_law_cash", "_law_memo", "_law_gives", "_law_marked", "_law_name", "_law_limit", "_law_heed"] ["_law_model_here"] (defScope s__law_made) := ⟨rfl, rfl, rfl, by decide +kernel, rfl, by decide +kernel, by decide +kernel⟩
theorem sc__law_draw : FnScope ["_law_pool_here", "_law_many", "_law_found"] ["_law_pool_here", "_law_many"] (defScope s__law_draw) := ⟨rfl, rfl, rfl, by decide +kernel, rfl, by decide +kernel, by decide +kernel⟩
theorem sc__law_pick : FnScope ["_law_pool_here", "_law_row"] ["_law_pool_here", "_law_row"] (defScope s__law_pick) := ⟨rfl, rfl, rfl, by decide +kernel, rfl, by decide +kernel, by decide +kernel⟩
theorem sc__law_names : FnScope ["_law_pool_here", "_law_count", "_law_signs", "_law_origin", "_law_step", "_law_ends", "_law_head", "_law_tail", "_law_k"] ["_law_pool_here", "_law_count"] (defScope s__law_names) := ⟨rfl, rfl, rfl, by decide +kernel, rfl, by decide +kernel, by decide +kernel⟩
theorem sc__law_model : FnScope ["_law_pool_here", "_law_most_so", "_law_names_here", "_law_tills", "_law_known", "_law_pairs", "_law_at", "_law_name", "_law_some", "_law_memo", "_law_model_here"] ["_law_pool_here", "_law_most_so"] (defScope s__law_model) := ⟨rfl, rfl, rfl, by decide +kernel, rfl, by decide +kernel, by decide +kernel⟩
theorem sc__law_odds : FnScope ["_law_name", "_law_found"] ["_law_name"] (defScope s__law_odds) := ⟨rfl, rfl, rfl, by decide +kernel, rfl, by decide +kernel, by decide +kernel⟩
theorem sc__law_pool : FnScope ["_law_script", "_law_k", "_law_size", "_law_mixed"] ["_law_script", "_law_k"] (defScope s__law_pool) := ⟨rfl, rfl, rfl, by decide +kernel, rfl, by decide +kernel, by decide +kernel⟩
theorem sc_Town_names : FnScope ["self", "till"] ["self"] (defScope s_Town_names) := ⟨rfl, rfl, rfl, by decide +kernel, rfl, by decide +kernel, by decide +kernel⟩
theorem sc_events_of : FnScope ["town", "names", "events", "name", "units"] ["town"] (defScope s_events_of) := ⟨rfl, rfl, rfl, by decide +kernel, rfl, by decide +kernel, by decide +kernel⟩
theorem sc_Town_contains : FnScope ["self", "x"] ["self", "x"] (defScope s_Town_contains) := ⟨rfl, rfl, rfl, by decide +kernel, rfl, by decide +kernel, by decide +kernel⟩
theorem sc_is_units : FnScope ["value"] ["value"] (defScope s_is_units) := ⟨rfl, rfl, rfl, by decide +kernel, rfl, by decide +kernel, by decide +kernel⟩
theorem sc_is_event : FnScope ["town", "value"] ["town", "value"] (defScope s_is_event) := ⟨rfl, rfl, rfl, by decide +kernel, rfl, by decide +kernel, by decide +kernel⟩
theorem sc_law : FnScope ["_law_script", "_law_k", "_law_pool_here", "_law_model_here", "_law_town", "_law_name", "_law_turn", "_law_told", "_law_deed", "_law_odd"] ["_law_script"] (defScope s_law) := ⟨rfl, rfl, rfl, by decide +kernel, rfl, by decide +kernel, by decide +kernel⟩
structure Txt (K : PySem.W.Frag) (mg : Str → Option Value) where
  c_Till : Addr
  g_Till : mg "Till" = some (.ref c_Till)
  cl_Till : Cls K c_Till
  n_Till_name : NoAttr K c_Till "name"
  n_Till_limit : NoAttr K c_Till "limit"
  n_Till_heeds : NoAttr K c_Till "heeds"
  c_Town : Addr
  g_Town : mg "Town" = some (.ref c_Town)
  cl_Town : Cls K c_Town
  n_Town__tills : NoAttr K c_Town "_tills"
  n_Town__by_name : NoAttr K c_Town "_by_name"
  n_Town_links : NoAttr K c_Town "links"
  n_Town_money : NoAttr K c_Town "money"
  n_Town_memory : NoAttr K c_Town "memory"
  n_Town_tops : NoAttr K c_Town "tops"
  n_Town_numbered : NoAttr K c_Town "numbered"
  sp_cls : PySem.W.specialIn K (.builtin "object.__class__") "__get__" = some (some (.builtin "getset_descriptor.__get__"))
  tk_cls : PySem.W.takesIn K (.builtin "object.__class__") = some true
  ic_Till : PySem.W.findIn K (.ref c_Till) "__class__" = some (some (.builtin "object.__class__"))
  mr_Till : PySem.W.mroIn K c_Till (.type "object") = some true
  ki_Till : PySem.W.kitOne K (.ref c_Till) (.ref c_Till) = some true
  a__law_words_of : Addr
  d__law_words_of : FuncData
  F__law_words_of : Fun K "_law_words_of" "_law_words_of" s__law_words_of a__law_words_of d__law_words_of
  g__law_words_of : mg "_law_words_of" = some (.ref a__law_words_of)
  k__law_words_of : PySem.W.keepIn K (.ref a__law_words_of) = true
  b__law_words_of : Binds K d__law_words_of ["_law_model_here"] []
  a__law_all : Addr
  d__law_all : FuncData
  F__law_all : Fun K "_law_all" "_law_all" s__law_all a__law_all d__law_all
  g__law_all : mg "_law_all" = some (.ref a__law_all)
  k__law_all : PySem.W.keepIn K (.ref a__law_all) = true
  b__law_all : Binds K d__law_all ["_law_model_here"] []
  a_is_integer : Addr
  d_is_integer : FuncData
  F_is_integer : Fun K "is_integer" "is_integer" s_is_integer a_is_integer d_is_integer
  g_is_integer : mg "is_integer" = some (.ref a_is_integer)
  k_is_integer : PySem.W.keepIn K (.ref a_is_integer) = true
  b_is_integer : Binds K d_is_integer ["value"] []
  a_is_integer_to : Addr
  d_is_integer_to : FuncData
  F_is_integer_to : Fun K "is_integer_to" "is_integer_to" s_is_integer_to a_is_integer_to d_is_integer_to
  g_is_integer_to : mg "is_integer_to" = some (.ref a_is_integer_to)
  k_is_integer_to : PySem.W.keepIn K (.ref a_is_integer_to) = true
  b_is_integer_to : Binds K d_is_integer_to ["value", "top"] []
  a_is_limit : Addr
  d_is_limit : FuncData
  F_is_limit : Fun K "is_limit" "is_limit" s_is_limit a_is_limit d_is_limit
  g_is_limit : mg "is_limit" = some (.ref a_is_limit)
  k_is_limit : PySem.W.keepIn K (.ref a_is_limit) = true
  b_is_limit : Binds K d_is_limit ["value"] []
  a_is_name : Addr
  d_is_name : FuncData
  F_is_name : Fun K "is_name" "is_name" s_is_name a_is_name d_is_name
  g_is_name : mg "is_name" = some (.ref a_is_name)
  k_is_name : PySem.W.keepIn K (.ref a_is_name) = true
  b_is_name : Binds K d_is_name ["value"] []
  a_is_truth : Addr
  d_is_truth : FuncData
  F_is_truth : Fun K "is_truth" "is_truth" s_is_truth a_is_truth d_is_truth
  g_is_truth : mg "is_truth" = some (.ref a_is_truth)
  k_is_truth : PySem.W.keepIn K (.ref a_is_truth) = true
  b_is_truth : Binds K d_is_truth ["value"] []
  a_Till_init : Addr
  d_Till_init : FuncData
  F_Till_init : Fun K "__init__" "Till.__init__" s_Till_init a_Till_init d_Till_init
  mk_Till : Mk K c_Till a_Till_init
  a_ascending_links : Addr
  d_ascending_links : FuncData
  F_ascending_links : Fun K "ascending_links" "ascending_links" s_ascending_links a_ascending_links d_ascending_links
  g_ascending_links : mg "ascending_links" = some (.ref a_ascending_links)
  k_ascending_links : PySem.W.keepIn K (.ref a_ascending_links) = true
  b_ascending_links : Binds K d_ascending_links ["names", "links"] []
  a_is_link : Addr
  d_is_link : FuncData
  F_is_link : Fun K "is_link" "is_link" s_is_link a_is_link d_is_link
  g_is_link : mg "is_link" = some (.ref a_is_link)
  k_is_link : PySem.W.keepIn K (.ref a_is_link) = true
  b_is_link : Binds K d_is_link ["names", "value"] []
  a_is_list : Addr
  d_is_list : FuncData
  F_is_list : Fun K "is_list" "is_list" s_is_list a_is_list d_is_list
  g_is_list : mg "is_list" = some (.ref a_is_list)
  k_is_list : PySem.W.keepIn K (.ref a_is_list) = true
  b_is_list : Binds K d_is_list ["value"] []
  a_check_links : Addr
  d_check_links : FuncData
  F_check_links : Fun K "check_links" "check_links" s_check_links a_check_links d_check_links
  g_check_links : mg "check_links" = some (.ref a_check_links)
  k_check_links : PySem.W.keepIn K (.ref a_check_links) = true
  b_check_links : Binds K d_check_links ["names", "links"] []
  a_is_word : Addr
  d_is_word : FuncData
  F_is_word : Fun K "is_word" "is_word" s_is_word a_is_word d_is_word
  g_is_word : mg "is_word" = some (.ref a_is_word)
  k_is_word : PySem.W.keepIn K (.ref a_is_word) = true
  b_is_word : Binds K d_is_word ["value", "word"] []
  a_is_memory : Addr
  d_is_memory : FuncData
  F_is_memory : Fun K "is_memory" "is_memory" s_is_memory a_is_memory d_is_memory
  g_is_memory : mg "is_memory" = some (.ref a_is_memory)
  k_is_memory : PySem.W.keepIn K (.ref a_is_memory) = true
  b_is_memory : Binds K d_is_memory ["value"] []
  a_check_parts : Addr
  d_check_parts : FuncData
  F_check_parts : Fun K "check_parts" "check_parts" s_check_parts a_check_parts d_check_parts
  g_check_parts : mg "check_parts" = some (.ref a_check_parts)
  k_check_parts : PySem.W.keepIn K (.ref a_check_parts) = true
  b_check_parts : Binds K d_check_parts ["money", "memory", "tops", "numbered"] []
  a_check_tills : Addr
  d_check_tills : FuncData
  F_check_tills : Fun K "check_tills" "check_tills" s_check_tills a_check_tills d_check_tills
  g_check_tills : mg "check_tills" = some (.ref a_check_tills)
  k_check_tills : PySem.W.keepIn K (.ref a_check_tills) = true
  b_check_tills : Binds K d_check_tills ["tills"] []
  a_Town_init : Addr
  d_Town_init : FuncData
  F_Town_init : Fun K "__init__" "Town.__init__" s_Town_init a_Town_init d_Town_init
  mk_Town : Mk K c_Town a_Town_init
  a__law_made : Addr
  d__law_made : FuncData
  F__law_made : Fun K "_law_made" "_law_made" s__law_made a__law_made d__law_made
  g__law_made : mg "_law_made" = some (.ref a__law_made)
  k__law_made : PySem.W.keepIn K (.ref a__law_made) = true
  b__law_made : Binds K d__law_made ["_law_model_here"] []
  a__law_draw : Addr
  d__law_draw : FuncData
  F__law_draw : Fun K "_law_draw" "_law_draw" s__law_draw a__law_draw d__law_draw
  g__law_draw : mg "_law_draw" = some (.ref a__law_draw)
  k__law_draw : PySem.W.keepIn K (.ref a__law_draw) = true
  b__law_draw : Binds K d__law_draw ["_law_pool_here", "_law_many"] []
  a__law_pick : Addr
  d__law_pick : FuncData
  F__law_pick : Fun K "_law_pick" "_law_pick" s__law_pick a__law_pick d__law_pick
  g__law_pick : mg "_law_pick" = some (.ref a__law_pick)
  k__law_pick : PySem.W.keepIn K (.ref a__law_pick) = true
  b__law_pick : Binds K d__law_pick ["_law_pool_here", "_law_row"] []
  a__law_names : Addr
  d__law_names : FuncData
  F__law_names : Fun K "_law_names" "_law_names" s__law_names a__law_names d__law_names
  g__law_names : mg "_law_names" = some (.ref a__law_names)
  k__law_names : PySem.W.keepIn K (.ref a__law_names) = true
  b__law_names : Binds K d__law_names ["_law_pool_here", "_law_count"] []
  a__law_model : Addr
  d__law_model : FuncData
  F__law_model : Fun K "_law_model" "_law_model" s__law_model a__law_model d__law_model
  g__law_model : mg "_law_model" = some (.ref a__law_model)
  k__law_model : PySem.W.keepIn K (.ref a__law_model) = true
  b__law_model : Binds K d__law_model ["_law_pool_here", "_law_most_so"] []
  a__law_odds : Addr
  d__law_odds : FuncData
  F__law_odds : Fun K "_law_odds" "_law_odds" s__law_odds a__law_odds d__law_odds
  g__law_odds : mg "_law_odds" = some (.ref a__law_odds)
  k__law_odds : PySem.W.keepIn K (.ref a__law_odds) = true
  b__law_odds : Binds K d__law_odds ["_law_name"] []
  a__law_pool : Addr
  d__law_pool : FuncData
  F__law_pool : Fun K "_law_pool" "_law_pool" s__law_pool a__law_pool d__law_pool
  g__law_pool : mg "_law_pool" = some (.ref a__law_pool)
  k__law_pool : PySem.W.keepIn K (.ref a__law_pool) = true
  b__law_pool : Binds K d__law_pool ["_law_script", "_law_k"] []
  a_Town_names : Addr
  d_Town_names : FuncData
  F_Town_names : Fun K "names" "Town.names" s_Town_names a_Town_names d_Town_names
  m_Town_names : Meth K c_Town "names" a_Town_names
  b_Town_names : Binds K d_Town_names ["self"] []
  a_events_of : Addr
  d_events_of : FuncData
  F_events_of : Fun K "events_of" "events_of" s_events_of a_events_of d_events_of
  g_events_of : mg "events_of" = some (.ref a_events_of)
  k_events_of : PySem.W.keepIn K (.ref a_events_of) = true
  b_events_of : Binds K d_events_of ["town"] []
  a_Town_contains : Addr
  d_Town_contains : FuncData
  F_Town_contains : Fun K "__contains__" "Town.__contains__" s_Town_contains a_Town_contains d_Town_contains
  m_Town_contains : Meth K c_Town "__contains__" a_Town_contains
  b_Town_contains : Binds K d_Town_contains ["self", "x"] []
  a_is_units : Addr
  d_is_units : FuncData
  F_is_units : Fun K "is_units" "is_units" s_is_units a_is_units d_is_units
  g_is_units : mg "is_units" = some (.ref a_is_units)
  k_is_units : PySem.W.keepIn K (.ref a_is_units) = true
  b_is_units : Binds K d_is_units ["value"] []
  a_is_event : Addr
  d_is_event : FuncData
  F_is_event : Fun K "is_event" "is_event" s_is_event a_is_event d_is_event
  g_is_event : mg "is_event" = some (.ref a_is_event)
  k_is_event : PySem.W.keepIn K (.ref a_is_event) = true
  b_is_event : Binds K d_is_event ["town", "value"] []
  a_law : Addr
  d_law : FuncData
  F_law : Fun K "law" "law" s_law a_law d_law
  g_law : mg "law" = some (.ref a_law)
  k_law : PySem.W.keepIn K (.ref a_law) = true
  b_law : Binds K d_law ["_law_script"] []
  kb_Till_init_2_heeds : KBn K d_Till_init ["self", "name", "limit", "heeds"] 3 ["heeds"] (fun us ws => us ++ ws) (fun vs zs => vs ++ zs)
  kb_Town_init_1_links_money_memory_tops_numbered : KBn K d_Town_init ["self", "tills", "links", "money", "memory", "tops", "numbered"] 2 ["links", "money", "memory", "tops", "numbered"] (fun us ws => us ++ ws) (fun vs zs => vs ++ zs)
  no_all : mg "all" = none
  no_bool : mg "bool" = none
  no_enumerate : mg "enumerate" = none
  no_int : mg "int" = none
  no_isinstance : mg "isinstance" = none
  no_len : mg "len" = none
  no_list : mg "list" = none
  no_max : mg "max" = none
  no_min : mg "min" = none
  no_range : mg "range" = none
  no_sorted : mg "sorted" = none
  no_str : mg "str" = none
  no_tuple : mg "tuple" = none
  t_LONGEST_NAME : Tok
  g_LONGEST_NAME : mg "LONGEST_NAME" = some (.int 8 t_LONGEST_NAME)
  t_MOST_TILLS : Tok
  g_MOST_TILLS : mg "MOST_TILLS" = some (.int 4 t_MOST_TILLS)
  t_MOST_TOPS : Tok
  g_MOST_TOPS : mg "MOST_TOPS" = some (.int 5 t_MOST_TOPS)
  w_TILL_WORDS : Addr
  g_TILL_WORDS : mg "TILL_WORDS" = some (.ref w_TILL_WORDS)
  q_TILL_WORDS : KTup K w_TILL_WORDS [.str "cut", .str "line", .str "again"]
  t_TOP_LIMIT : Tok
  g_TOP_LIMIT : mg "TOP_LIMIT" = some (.int 9 t_TOP_LIMIT)
  t_TOP_MONEY : Tok
  g_TOP_MONEY : mg "TOP_MONEY" = some (.int 9 t_TOP_MONEY)
  t_TOP_REMEMBERED : Tok
  g_TOP_REMEMBERED : mg "TOP_REMEMBERED" = some (.int 9 t_TOP_REMEMBERED)
  w_UNITS : Addr
  g_UNITS : mg "UNITS" = some (.ref w_UNITS)
  q_UNITS : KTup K w_UNITS [.int 1, .int 2]
theorem Txt.r_LONGEST_NAME {K : PySem.W.Frag} {mg : Str → Option Value} (T : Txt K mg) : RelV (.int 8) (.int 8 T.t_LONGEST_NAME) := ⟨_, rfl⟩
theorem Txt.r_MOST_TILLS {K : PySem.W.Frag} {mg : Str → Option Value} (T : Txt K mg) : RelV (.int 4) (.int 4 T.t_MOST_TILLS) := ⟨_, rfl⟩
theorem Txt.r_MOST_TOPS {K : PySem.W.Frag} {mg : Str → Option Value} (T : Txt K mg) : RelV (.int 5) (.int 5 T.t_MOST_TOPS) := ⟨_, rfl⟩
theorem Txt.r_TOP_LIMIT {K : PySem.W.Frag} {mg : Str → Option Value} (T : Txt K mg) : RelV (.int 9) (.int 9 T.t_TOP_LIMIT) := ⟨_, rfl⟩
theorem Txt.r_TOP_MONEY {K : PySem.W.Frag} {mg : Str → Option Value} (T : Txt K mg) : RelV (.int 9) (.int 9 T.t_TOP_MONEY) := ⟨_, rfl⟩
theorem Txt.r_TOP_REMEMBERED {K : PySem.W.Frag} {mg : Str → Option Value} (T : Txt K mg) : RelV (.int 9) (.int 9 T.t_TOP_REMEMBERED) := ⟨_, rfl⟩
end Toy
namespace Toy
open PySem PySem.Spec PyProof.Rows L2 Kx
def sp__law_words_of : Sp := fun vs H Q _ => ∃ (m tl ll mm : Addr) (M : ModelD), vs = [.ref m] ∧ ModelAt H m M tl ll mm ∧ M.tills.length ≤ 100 ∧ ∀ l H', H l = none → H' = upd H l (.lst (M.names.map V.str)) → Q (.ref l) H'
section
variable {P : Program} {w : World} {K : PySem.W.Frag} {mg : Str → Option Value} {base : Heap}
theorem ok__law_words_of (T : Txt K mg) : FnOk P w K mg base CX0 1 T.a__law_words_of T.d__law_words_of ["_law_model_here"] sp__law_words_of := by
  have nd := sc__law_words_of.nd
  refine T.F__law_words_of.ok sc__law_words_of (fun vs H Q E h => ?_) (fun cdv A outer s H vs Q E hr h => ?_)
  · obtain ⟨m, tl, ll, mm, M, rfl, _⟩ := h; rfl
  · obtain ⟨m, tl, ll, mm, M, rfl, hM, h100, k⟩ := h
    have hu := hu_of hr
    refine ⟨_, (pss_one (ps_ret (pe_lc (own := [("_law_till", 1)]) rfl nd (pi_listK (K := K) rfl (pe_dget hu (pv 0) (pe_str) (fun _ _ => rfl))) (blkOk_by (N := ["_law_model_here", "_law_till"]) (sc := defScope s__law_words_of) (by decide +kernel)) (fun _ _ _ _ _ => (pg_name (i := 1) nd rfl (by first | exact Or.inl rfl | exact Or.inr rfl))) (fun _ _ _ _ _ => pts_nil) (fun _ _ _ _ _ => (pe_ix (ix_tupK (K := K) rfl) (pv 1) (pe_int) (fun _ _ => rfl)))))), ?_⟩
    obtain ⟨ts, ht, hts⟩ := hM.tills
    have hlen : ts.length = M.tills.length := by rw [hts.len, List.length_map]
    tm_at "xst"
    refine q_dgetS hM.d (by tm_at "xval") ?_
    refine ⟨tl, rfl, ⟨_, SqL.of ht⟩, fun D hD => ?_⟩
    refine lc_idx (n := ts.length) (walk_list (K := K) (a := tl) (xs := ts)) ts (M.names.map V.str) rfl (by rw [List.length_map, hlen]; unfold ModelD.names; rw [List.length_map]) (Nat.lt_of_le_of_lt (by rw [hlen]; exact h100) (by decide)) (fun o => SqL.of (at_new hD ht)) (fun i H x H' y => y) (fun i x y o Q' hx hy q => ?_) (k D _ hD rfl)
    obtain ⟨d, h1, h2⟩ := hts.get hx
    rw [List.getElem?_map] at h1
    unfold ModelD.names at hy
    rw [List.map_map, List.getElem?_map] at hy
    cases e : M.tills[i]? with
    | none => rw [e] at h1; cases h1
    | some t =>
      rw [e] at h1 hy
      cases h1
      cases hy
      cases h2 with
      | tup ha hs =>
        cases hs with
        | cons h3 _ =>
          cases h3
          tm_at "xst"
          exact q_ixT (SqT.of (at_new hD ha)) (atI_of (Int.le_refl 0) rfl) q
end
end Toy
namespace Toy
open PySem PySem.Spec PyProof.Rows L2 Kx
def sp__law_all : Sp := fun vs H Q _ => ∃ (m tl ll mm : Addr) (M : ModelD), vs = [.ref m] ∧ ModelAt H m M tl ll mm ∧ M.tills.length ≤ 10 ∧ ∀ l H', H l = none → Same H H' → LstD H' l (allEv M.names) → Q (.ref l) H'
section
variable {P : Program} {w : World} {K : PySem.W.Frag} {mg : Str → Option Value} {base : Heap}
theorem ok__law_all (T : Txt K mg) : FnOk P w K mg base CX0 2 T.a__law_all T.d__law_all ["_law_model_here"] sp__law_all := by
  have nd := sc__law_all.nd
  refine T.F__law_all.ok sc__law_all (fun vs H Q E h => ?_) (fun cdv A outer s H vs Q E hr h => ?_)
  · obtain ⟨m, tl, ll, mm, M, rfl, _⟩ := h; rfl
  · obtain ⟨m, tl, ll, mm, M, rfl, hM, h10, k⟩ := h
    have hu := hu_of hr
    refine ⟨_, (pss_cons (ps_set (i := 1) nd rfl (by first | exact Or.inl rfl | exact Or.inr rfl) (pe_call (ok__law_words_of T) (hr.mono (by decide)) rfl T.g__law_words_of T.k__law_words_of T.b__law_words_of .nil pass0 (pa_cons (pv 0) pa_nil)))
      (pss_cons (ps_setLc (i := 2) (own := [("_law_name", 3)]) rfl nd rfl rfl (sw_true rfl rfl rfl (by decide +kernel)) (pi_listK (K := K) rfl (pv 1)) (blkOk_by (N := ["_law_model_here", "_law_names_here", "_law_found", "_law_name"]) (sc := defScope s__law_all) (by decide +kernel)) (fun _ _ _ _ _ => (pg_name (i := 3) nd rfl (by first | exact Or.inl rfl | exact Or.inr rfl))) (fun _ _ _ _ _ => pts_nil) (fun _ _ _ _ _ => (pe_tup (pa_cons (pe_str) (pa_cons (pv 3) pa_nil)))))
      (pss_cons (ps_set (i := 2) nd rfl (by first | exact Or.inl rfl | exact Or.inr rfl) (pe_op op_cat (pv 2) (pe_lc (own := [("_law_name", 3)]) rfl nd (pi_listK (K := K) rfl (pv 1)) (blkOk_by (N := ["_law_model_here", "_law_names_here", "_law_found", "_law_name"]) (sc := defScope s__law_all) (by decide +kernel)) (fun _ _ _ _ _ => (pg_name (i := 3) nd rfl (by first | exact Or.inl rfl | exact Or.inr rfl))) (fun _ _ _ _ _ => pts_nil) (fun _ _ _ _ _ => (pe_tup (pa_cons (pe_str) (pa_cons (pv 3) pa_nil)))))))
      (pss_cons (ps_for PassesOwn.never rfl (pi_listK (K := K) rfl (pv 1)) (pg_name (i := 3) nd rfl (by first | exact Or.inl rfl | exact Or.inr rfl)) (pss_one (ps_set (i := 2) nd rfl (by first | exact Or.inl rfl | exact Or.inr rfl) (pe_op op_cat (pv 2) (pe_lst (pa_cons (pe_tup (pa_cons (pe_str) (pa_cons (pv 3) (pa_cons (pe_int) pa_nil)))) (pa_cons (pe_tup (pa_cons (pe_str) (pa_cons (pv 3) (pa_cons (pe_int) pa_nil)))) pa_nil)))))))
      (pss_one (ps_ret (pe_op op_cat (pe_op op_cat (pv 2) (pe_lst (pa_cons (pe_tup (pa_cons (pe_str) (pa_cons (pe_int) pa_nil))) (pa_cons (pe_tup (pa_cons (pe_str) (pa_cons (pe_int) pa_nil))) (pa_cons (pe_tup (pa_cons (pe_str) pa_nil)) pa_nil))))) (pe_lc (own := [("_law_name", 3)]) rfl nd (pi_listK (K := K) rfl (pv 1)) (blkOk_by (N := ["_law_model_here", "_law_names_here", "_law_found", "_law_name"]) (sc := defScope s__law_all) (by decide +kernel)) (fun _ _ _ _ _ => (pg_name (i := 3) nd rfl (by first | exact Or.inl rfl | exact Or.inr rfl))) (fun _ _ _ _ _ => pts_nil) (fun _ _ _ _ _ => (pe_tup (pa_cons (pe_str) (pa_cons (pv 3) pa_nil)))))))))))), ?_⟩
    tm_at "xst"
    refine ⟨m, tl, ll, mm, M, rfl, hM, by omega, fun l H1 hl e1 => ?_⟩
    have hn : M.names.length ≤ 10 := by unfold ModelD.names; rw [List.length_map]; exact h10
    have hL : H1 l = some (.lst (M.names.map V.str)) := by rw [e1, upd_same]
    have s1 : Same H H1 := by rw [e1]; exact Same.new hl
    generalize M.names = ns at hn hL k
    tm_at "xst"
    refine ⟨l, rfl, ⟨_, SqL.of hL⟩, fun D hD => ?_⟩
    have n0 : ns.length ≤ 10 := hn
    refine lc_td walk_list hD (ns.map (wordP "cut")) (by rw [List.length_map, List.length_map]) (by rw [List.length_map]; omega) (fun H e => SqL.of (e _ _ hL)) (ns.map V.str) (fun i H x H' y => y) (fun i x d H Q' hx hd e q => ?_) (fun H2 e2 d2 => ?_)
    · obtain ⟨n, _, rfl, rfl⟩ := at_maps hx hd
      tm_at "xst"
      exact q _ _ (Same.new (by assumption)) (by unfold wordP; tm_at "xtd")
    have hL2 := e2 _ _ hL
    tm_at "xst"
    refine ⟨l, rfl, ⟨_, SqL.of hL2⟩, fun D2 hD2 => ?_⟩
    refine lc_td walk_list hD2 (ns.map (wordP "line")) (by rw [List.length_map, List.length_map]) (by rw [List.length_map]; omega) (fun H e => SqL.of (e _ _ hL2)) (ns.map V.str) (fun i H x H' y => y) (fun i x d H Q' hx hd e q => ?_) (fun H3 e3 d3 => ?_)
    · obtain ⟨n, _, rfl, rfl⟩ := at_maps hx hd
      tm_at "xst"
      exact q _ _ (Same.new (by assumption)) (by unfold wordP; tm_at "xtd")
    refine q_cat (d2.same e3) d3 (by rw [List.length_map, List.length_map]; omega) fun f0 H4 hf0 e4 d4 => ?_
    have s4 : Same H H4 := ((s1.trans e2).trans e3).trans e4
    have hL4 := e4 _ _ (e3 _ _ hL2)
    generalize hB : ns.map (wordP "cut") ++ ns.map (wordP "line") = B at d4
    have hBl : B.length ≤ 20 := by rw [← hB, List.length_append, List.length_map, List.length_map]; omega
    tm_at "xst"
    refine ⟨l, rfl, ⟨_, SqL.of hL4⟩, for_list (K := K) (a := l) (xs := ns.map V.str) (fun i σ H' => ∃ f v, σ = [some (.ref m), some (.ref l), some (.ref f), v] ∧ Same H4 H' ∧ LstD H' f (B ++ (ns.take i).flatMap fun n => [payP n 1, payP n 2])) ⟨f0, none, rfl, Same.refl _, by simpa using d4⟩ (fun i σ H' _ ⟨_, _, _, e, _⟩ => e.seq (SqL.of hL4)) ?_ ?_⟩
    · rintro i x σ H' hx ⟨f, v, rfl, e, d⟩
      rw [List.getElem?_map] at hx
      cases en : ns[i]? with
      | none => rw [en] at hx; cases hx
      | some n =>
        rw [en] at hx
        cases hx
        have hi : i < ns.length := (List.getElem?_eq_some_iff.mp en).1
        tm_at "xst"
        rename_i p1 q1 p2 q2 p3 q3
        refine q_cat (es := [payP n 1, payP n 2]) ((d.same (Same.new q1)).same (Same.new q2) |>.same (Same.new q3)) (LstD.mk upd_same (by unfold payP; tm_at "xtd")) ?_ fun g H5 hg e5 d5 => ?_
        · rw [List.length_append, flat2_len, List.length_take]
          show _ + 2 ≤ 1000
          omega
        refine ⟨g, _, rfl, ((e.trans (Same.new q1)).trans (Same.new q2)).trans ((Same.new q3).trans e5), ?_⟩
        rw [List.take_add_one, en, Option.toList_some, List.flatMap_append, ← List.append_assoc]
        exact d5
    rintro σ H' ⟨f, v, rfl, e, d⟩
    rw [List.length_map, List.take_length] at d
    have hfl : (ns.flatMap fun n => [payP n 1, payP n 2]).length ≤ 20 := by rw [flat2_len]; omega
    tm_at "xst"
    rename_i p1 q1 p2 q2 p3 q3 p4 q4
    refine q_cat (es := [.tuple [.str "top", .int 1], .tuple [.str "top", .int 2], .tuple [.str "lose"]]) (((d.same (Same.new q1)).same (Same.new q2) |>.same (Same.new q3)).same (Same.new q4)) (LstD.mk upd_same (by tm_at "xtd")) (by rw [List.length_append]; show _ + 3 ≤ 1000; omega) fun g H5 hg e5 d5 => ?_
    have s5 : Same H4 H5 := (((e.trans (Same.new q1)).trans (Same.new q2)).trans (Same.new q3)).trans ((Same.new q4).trans e5)
    have hL5 := s5 _ _ hL4
    tm_at "xst"
    refine ⟨l, rfl, ⟨_, SqL.of hL5⟩, fun D3 hD3 => ?_⟩
    refine lc_td walk_list hD3 (ns.map (wordP "again")) (by rw [List.length_map, List.length_map]) (by rw [List.length_map]; omega) (fun H e => SqL.of (e _ _ hL5)) (ns.map V.str) (fun i H x H' y => y) (fun i x d H Q' hx hd e q => ?_) (fun H6 e6 d6 => ?_)
    · obtain ⟨n, _, rfl, rfl⟩ := at_maps hx hd
      tm_at "xst"
      exact q _ _ (Same.new (by assumption)) (by unfold wordP; tm_at "xtd")
    refine q_cat (d5.same e6) d6 (by rw [List.length_append, List.length_append, List.length_map]; show _ + 3 + _ ≤ 1000; omega) fun r H7 hr7 e7 d7 => ?_
    have s7 : Same H H7 := ((s4.trans s5).trans e6).trans e7
    refine k r H7 (s7.free' hr7 ((s4.trans s5).trans e6)) s7 ?_
    unfold allEv
    rw [hB]
    exact d7
end
end Toy
namespace Toy
open PySem PySem.Spec PyProof.Rows L2 Kx
def sp_is_integer : Sp := fun vs H Q _ => ∃ x, vs = [x] ∧ Any H x ∧ Q (.bl (isInt x)) H
section
variable {P : Program} {w : World} {K : PySem.W.Frag} {mg : Str → Option Value} {base : Heap}
theorem ok_is_integer (T : Txt K mg) : FnOk P w K mg base CX0 1 T.a_is_integer T.d_is_integer ["value"] sp_is_integer := by
  have nd := sc_is_integer.nd
  refine T.F_is_integer.ok sc_is_integer (fun vs H Q E h => ?_) (fun cdv A outer s H vs Q E hr h => ?_)
  · obtain ⟨x, rfl, _⟩ := h; rfl
  · obtain ⟨x, rfl, ha, k⟩ := h
    have hu := hu_of hr
    refine ⟨_, (pss_one (ps_ret ((pe_and (pe_callB (call_isiK' (K := K) rfl) (by rfl) T.no_isinstance (by decide +kernel) (pa_cons (pv 0) (pa_cons (pe_bltn (v := .ty "int") (u := .type "int") (by rfl) T.no_int (by decide +kernel) rfl) pa_nil))) (pe_one (pe_not (pe_callB (call_isiK' (K := K) rfl) (by rfl) T.no_isinstance (by decide +kernel) (pa_cons (pv 0) (pa_cons (pe_bltn (v := .ty "bool") (u := .type "bool") (by rfl) T.no_bool (by decide +kernel) rfl) pa_nil))))))))), ?_⟩
    tm_at "xst"
    rw [isInt_eq ha] at k
    refine q_isInt ha ?_
    tm_at "xst"
    refine i_b (fun h1 => ?_) (fun h1 => ?_)
    · tm_at "xst"
      refine q_isBool ha ?_
      tm_at "xst"
      rw [h1] at k
      exact k
    · rw [h1] at k
      exact k
end
end Toy
namespace Toy
open PySem PySem.Spec PyProof.Rows L2 Kx
def sp_is_integer_to : Sp := fun vs H Q _ => ∃ x t, vs = [x, .int t] ∧ Any H x ∧ Q (.bl (isIntTo t x)) H
section
variable {P : Program} {w : World} {K : PySem.W.Frag} {mg : Str → Option Value} {base : Heap}
theorem ok_is_integer_to (T : Txt K mg) : FnOk P w K mg base CX0 2 T.a_is_integer_to T.d_is_integer_to ["value", "top"] sp_is_integer_to := by
  have nd := sc_is_integer_to.nd
  refine T.F_is_integer_to.ok sc_is_integer_to (fun vs H Q E h => ?_) (fun cdv A outer s H vs Q E hr h => ?_)
  · obtain ⟨x, t, rfl, _⟩ := h; rfl
  · obtain ⟨x, t, rfl, ha, k⟩ := h
    have hu := hu_of hr
    refine ⟨_, (pss_one (ps_ret ((pe_and (pe_call (ok_is_integer T) (hr.mono (by decide)) rfl T.g_is_integer T.k_is_integer T.b_is_integer .nil pass0 (pa_cons (pv 0) pa_nil)) (pe_one (pe_chain op_le op_le (pe_int) (pv 0) (pv 1))))))), ?_⟩
    tm_at "xst"
    refine ⟨x, rfl, ha, ?_⟩
    tm_at "xst"
    refine i_b (fun h1 => ?_) (fun h1 => ?_)
    · obtain ⟨i, rfl⟩ := isInt_true h1
      tm_at "xst"
      refine i_dec (fun h2 => ?_) (fun h2 => ?_)
      · tm_at "xst"
        simp only [isIntTo, decide_eq_true h2, Bool.true_and] at k
        exact k
      · simp only [isIntTo, decide_eq_false h2, Bool.false_and] at k
        exact k
    · rw [isIntTo_not h1] at k
      exact k
end
end Toy
namespace Toy
open PySem PySem.Spec PyProof.Rows L2 Kx
def sp_is_limit : Sp := fun vs H Q _ => ∃ x, vs = [x] ∧ Any H x ∧ Q (.bl (isIntTo 9 x)) H
section
variable {P : Program} {w : World} {K : PySem.W.Frag} {mg : Str → Option Value} {base : Heap}
theorem ok_is_limit (T : Txt K mg) : FnOk P w K mg base CX0 3 T.a_is_limit T.d_is_limit ["value"] sp_is_limit := by
  have nd := sc_is_limit.nd
  refine T.F_is_limit.ok sc_is_limit (fun vs H Q E h => ?_) (fun cdv A outer s H vs Q E hr h => ?_)
  · obtain ⟨x, rfl, _⟩ := h; rfl
  · obtain ⟨x, rfl, ha, k⟩ := h
    have hu := hu_of hr
    refine ⟨_, (pss_one (ps_ret (pe_call (ok_is_integer_to T) (hr.mono (by decide)) rfl T.g_is_integer_to T.k_is_integer_to T.b_is_integer_to .nil pass0 (pa_cons (pv 0) (pa_cons (pe_glob rfl T.g_TOP_LIMIT T.r_TOP_LIMIT) pa_nil))))), ?_⟩
    tm_at "xst"
    exact ⟨x, 9, rfl, ha, k⟩
end
end Toy
namespace Toy
open PySem PySem.Spec PyProof.Rows L2 Kx
def sp_is_name : Sp := fun vs H Q _ => ∃ x, vs = [x] ∧ Any H x ∧ (∀ s, x = .str s → s.length ≤ 100000) ∧ ∀ H', Same H H' → Q (.bl (isNameV x)) H'
section
variable {P : Program} {w : World} {K : PySem.W.Frag} {mg : Str → Option Value} {base : Heap}
theorem ok_is_name (T : Txt K mg) : FnOk P w K mg base CX0 1 T.a_is_name T.d_is_name ["value"] sp_is_name := by
  have nd := sc_is_name.nd
  refine T.F_is_name.ok sc_is_name (fun vs H Q E h => ?_) (fun cdv A outer s H vs Q E hr h => ?_)
  · obtain ⟨x, rfl, _⟩ := h; rfl
  · obtain ⟨x, rfl, ha, hz, k⟩ := h
    have hu := hu_of hr
    refine ⟨_, (pss_cons (ps_if (PW.pt (pw_or (pt_not (pt_val (pe_callB (call_isiK' (K := K) rfl) (by rfl) T.no_isinstance (by decide +kernel) (pa_cons (pv 0) (pa_cons (pe_bltn (v := .ty "str") (u := .type "str") (by rfl) T.no_str (by decide +kernel) rfl) pa_nil))))) (pw_or1 (pt_not (pt_chain op_le op_le (pe_int) (pe_callB (call_lenK (K := K) rfl) (by rfl) T.no_len (by decide +kernel) (pa_cons (pv 0) pa_nil)) (pe_glob rfl T.g_LONGEST_NAME T.r_LONGEST_NAME)))))) (pss_one (ps_ret (pe_bl))) pss_nil)
      (pss_one (ps_ret (pe_callB (cr_allK (K := K) rfl rfl) (by rfl) T.no_all (by decide +kernel) (pa_cons (pe_lc (own := [("letter", 1)]) rfl nd (pi_str (pv 0)) (blkOk_by (N := ["value", "letter"]) (sc := defScope s_is_name) (by decide +kernel)) (fun _ _ _ _ _ => (pg_name (i := 1) nd rfl (by first | exact Or.inl rfl | exact Or.inr rfl))) (fun _ _ _ _ _ => pts_nil) (fun _ _ _ _ _ => (pe_chain op_le_str op_le_str (pe_str) (pv 1) (pe_str)))) pa_nil))))), ?_⟩
    tm_at "xst"
    refine q_isStr ha ?_
    tm_at "xst"
    refine i_b (fun h1 => ?_) (fun h1 => ?_)
    · have k := k H (Same.refl H)
      rw [nname_of (kind_nstr (by simpa using h1))] at k
      tm_at "xst"
      exact k
    · obtain ⟨s, rfl⟩ := kind_str ha (by simpa using h1)
      have hz := hz s rfl
      have hs : s.length ≤ sizeLine := Nat.le_trans hz (by decide)
      have k0 := k H (Same.refl H)
      tm_at "xst"
      refine q_lenS hs ?_
      tm_at "xst"
      refine i_dec (fun h2 => ?_) (fun h2 => ?_)
      · tm_at "xst"
        refine i_ndec (fun h3 => ?_) (fun h3 => ?_)
        · tm_at "xst"
          have e : isNameV (.str s) = false := by
            simp only [isNameV, isNameS]
            rw [decide_eq_false (show ¬ s.length ≤ 8 by omega)]
            simp
          rw [e] at k0
          exact k0
        · tm_at "xst"
          refine ⟨_, rfl, s, rfl, fun D hD => lc_map walk_str (s.cps.toList.map sgn) letV (by rw [List.length_map, Array.length_toList]) (by show s.length < sizeLine; exact Nat.lt_of_le_of_lt hz (by decide)) (fun _ => trivial) (fun i H x H' y => ⟨y.1, ?_⟩) (fun i x o Q' hx q => ?_) ?_⟩
          · obtain ⟨_, c, hc, rfl⟩ := y
            rw [List.getElem?_map, Array.getElem?_toList, hc]
            rfl
          · obtain ⟨c, rfl, _⟩ := at_sgn hx
            rw [letV_sgn] at q
            tm_at "xst"
            refine q_leS ?_
            rw [str_a, lt1]
            tm_at "xst"
            refine i_ndec (fun h4 => ?_) (fun h4 => ?_)
            · tm_at "xst"
              refine q_leS ?_
              rw [str_z, lt1]
              have e : isLet c = !decide (122 < c) := by
                unfold isLet
                by_cases h5 : 122 < c
                · rw [decide_eq_true h5, decide_eq_false (show ¬ c ≤ 122 by omega)]; simp
                · rw [decide_eq_false h5, decide_eq_true (show c ≤ 122 by omega), decide_eq_true (show 97 ≤ c by omega)]; rfl
              rw [e] at q
              exact q
            · have e : isLet c = false := by
                unfold isLet
                rw [decide_eq_false (show ¬ 97 ≤ c by omega)]; rfl
              rw [e] at q
              exact q
          · tm_at "xst"
            refine ⟨D, s.cps.toList.map isLet, rfl, SqL.of (by rw [upd_same, List.map_map, List.map_map]; congr 2; exact List.map_congr_left fun c _ => letV_sgn c), ?_⟩
            have e : isNameV (.str s) = (s.cps.toList.map isLet).all id := by
              simp only [isNameV, isNameS]
              rw [decide_eq_true (show 1 ≤ s.length by omega), decide_eq_true (show s.length ≤ 8 by omega), List.all_map]
              rfl
            rw [← e]
            exact k _ (Same.new hD)
      · tm_at "xst"
        have e : isNameV (.str s) = false := by
          simp only [isNameV, isNameS]
          rw [decide_eq_false (show ¬ 1 ≤ s.length by omega)]
          simp
        rw [e] at k0
        exact k0
end
end Toy
namespace Toy
open PySem PySem.Spec PyProof.Rows L2 Kx
def sp_is_truth : Sp := fun vs H Q _ => ∃ x, vs = [x] ∧ Any H x ∧ Q (.bl (kindOf H x == "bool")) H
section
variable {P : Program} {w : World} {K : PySem.W.Frag} {mg : Str → Option Value} {base : Heap}
theorem ok_is_truth (T : Txt K mg) : FnOk P w K mg base CX0 1 T.a_is_truth T.d_is_truth ["value"] sp_is_truth := by
  have nd := sc_is_truth.nd
  refine T.F_is_truth.ok sc_is_truth (fun vs H Q E h => ?_) (fun cdv A outer s H vs Q E hr h => ?_)
  · obtain ⟨x, rfl, _⟩ := h; rfl
  · obtain ⟨x, rfl, ha, k⟩ := h
    have hu := hu_of hr
    refine ⟨_, (pss_one (ps_ret (pe_callB (call_isiK' (K := K) rfl) (by rfl) T.no_isinstance (by decide +kernel) (pa_cons (pv 0) (pa_cons (pe_bltn (v := .ty "bool") (u := .type "bool") (by rfl) T.no_bool (by decide +kernel) rfl) pa_nil))))), ?_⟩
    tm_at "xst"
    refine q_isBool ha ?_
    exact k
end
end Toy
namespace Toy
open PySem PySem.Spec PyProof.Rows L2 Kx
def sp_Till_init (c : Addr) : Sp := fun vs H Q _ => ∃ (x dx : Addr) (t : TillD), vs = [.ref x, .str t.name, .int t.limit, .bl t.heeds] ∧ H x = some (.ins c dx []) ∧ isNameS t.name = true ∧ 0 ≤ t.limit ∧ t.limit ≤ 9 ∧
  ∀ H', H' x = some (.ins c dx (tillF t)) → But x H H' → Q .non H'
theorem till_put (t : TillD) : putF "heeds" (.bl t.heeds) (putF "limit" (.int t.limit) (putF "name" (.str t.name) [])) = tillF t := by
  rw [putF_nil, putF_ne (by decide +kernel), putF_nil, putF_ne (by decide +kernel), putF_ne (by decide +kernel), putF_nil]
  rfl
section
variable {P : Program} {w : World} {K : PySem.W.Frag} {mg : Str → Option Value} {base : Heap}
theorem ok_Till_init (T : Txt K mg) : FnOk P w K mg base CX0 4 T.a_Till_init T.d_Till_init ["self", "name", "limit", "heeds"] (sp_Till_init T.c_Till) := by
  have nd := sc_Till_init.nd
  refine T.F_Till_init.ok sc_Till_init (fun vs H Q E h => ?_) (fun cdv A outer s H vs Q E hr h => ?_)
  · obtain ⟨x, dx, t, rfl, _⟩ := h; rfl
  · obtain ⟨x, dx, t, rfl, hx, hn, h0, h9, k⟩ := h
    have hu := hu_of hr
    refine ⟨_, (pss_cons (ps_if (pt_not (pt_val (pe_call (ok_is_name T) (hr.mono (by decide)) rfl T.g_is_name T.k_is_name T.b_is_name .nil pass0 (pa_cons (pv 1) pa_nil)))) (pss_one (ps_never)) pss_nil)
      (pss_cons (ps_if (pt_not (pt_val (pe_call (ok_is_limit T) (hr.mono (by decide)) rfl T.g_is_limit T.k_is_limit T.b_is_limit .nil pass0 (pa_cons (pv 2) pa_nil)))) (pss_one (ps_never)) pss_nil)
      (pss_cons (ps_if (pt_not (pt_val (pe_call (ok_is_truth T) (hr.mono (by decide)) rfl T.g_is_truth T.k_is_truth T.b_is_truth .nil pass0 (pa_cons (pv 3) pa_nil)))) (pss_one (ps_never)) pss_nil)
      (pss_cons (ps_fld (pv 0) (pv 1) rfl)
      (pss_cons (ps_fld (pv 0) (pv 2) rfl)
      (pss_one (ps_fld (pv 0) (pv 3) rfl))))))), ?_⟩
    tm_at "xst"
    refine ⟨_, rfl, .str _, (fun s e => by cases e; exact Nat.le_trans (isName_len hn) (by decide)), fun H1 e1 => ?_⟩
    have hx1 := e1 _ _ hx
    rw [show isNameV (.str t.name) = true from hn]
    tm_at "xst"
    tm_at "xdec"
    tm_at "xst"
    refine ⟨_, rfl, .int _, ?_⟩
    rw [show isIntTo 9 (.int t.limit) = true from by show (decide _ && decide _) = true; rw [decide_eq_true h0, decide_eq_true h9]; rfl]
    tm_at "xst"
    tm_at "xdec"
    tm_at "xst"
    refine ⟨_, rfl, .bl _, ?_⟩
    tm_at "xst"
    tm_at "xdec"
    tm_at "xst"
    refine q_sfld hx1 T.cl_Till T.n_Till_name (by tm_at "xlen") ?_
    tm_at "xst"
    refine q_sfld upd_same T.cl_Till T.n_Till_limit (by tm_at "xlen") ?_
    tm_at "xst"
    refine q_sfld upd_same T.cl_Till T.n_Till_heeds (by tm_at "xlen") ?_
    refine k _ ?_ ?_
    · rw [upd_same, till_put]
    · intro q o hq h
      rw [upd_ne hq, upd_ne hq, upd_ne hq]
      exact e1 q o h
end
end Toy
namespace Toy
open PySem PySem.Spec PyProof.Rows L2 Kx
def sp_ascending_links : Sp := fun vs H Q _ => ∃ (l ll : Addr) (ns : List Str) (ks : List (Str × Str)), vs = [.ref l, .ref ll] ∧ H l = some (.lst (ns.map V.str)) ∧ ns.length ≤ 8 ∧ LstD H ll (ks.map linkP) ∧ (∀ n ∈ ns, PyData.strOk n = true) ∧ (∀ k ∈ ks, okL k) ∧
  ∀ ord t H', ord.Perm ns → sortedS ord = true → Same H H' → Td H' (.ref t) (.tuple ((ascL ord ks).map linkP)) → Q (.ref t) H'
section
variable {P : Program} {w : World} {K : PySem.W.Frag} {mg : Str → Option Value} {base : Heap}
theorem ok_ascending_links (T : Txt K mg) : FnOk P w K mg base CX0 1 T.a_ascending_links T.d_ascending_links ["names", "links"] sp_ascending_links := by
  have nd := sc_ascending_links.nd
  refine T.F_ascending_links.ok sc_ascending_links (fun vs H Q E h => ?_) (fun cdv A outer s H vs Q E hr h => ?_)
  · obtain ⟨l, ll, ns, ks, rfl, _⟩ := h; rfl
  · obtain ⟨l, ll, ns, ks, rfl, hl, h8, hk, hsn, hsk, k⟩ := h
    have hu := hu_of hr
    have hu65 := hu65_of hr
    refine ⟨_, (pss_cons (ps_set (i := 2) nd rfl (by first | exact Or.inl rfl | exact Or.inr rfl) (pe_callB (cr_sortedSK (K := K) rfl) (by rfl) T.no_sorted (by decide +kernel) (pa_cons (pe_lc (own := [("name", 3)]) rfl nd (pi_listK (K := K) rfl (pv 0)) (blkOk_by (N := ["names", "links", "ordered", "name", "one", "other"]) (sc := defScope s_ascending_links) (by decide +kernel)) (fun _ _ _ _ _ => (pg_name (i := 3) nd rfl (by first | exact Or.inl rfl | exact Or.inr rfl))) (fun _ _ _ _ _ => pts_nil) (fun _ _ _ _ _ => (pe_callTy SkE.call_str_str (by rfl) T.no_str (by decide +kernel) (pa_cons (pv 3) pa_nil)))) pa_nil)))
      (pss_one (ps_ret (pe_callTy (call_tuple_ofK (K := K) rfl) (by rfl) T.no_tuple (by decide +kernel) (pa_cons (pe_lc2 (own := [("one", 4), ("other", 5)]) (vs1 := [5]) rfl nd (pi_listK (K := K) rfl (pv 2)) (blkOk_by (N := ["names", "links", "ordered", "name", "one", "other"]) (sc := defScope s_ascending_links) (by decide +kernel)) (by decide) (fun _ _ _ _ _ => (pg_name (i := 4) nd rfl (by first | exact Or.inl rfl | exact Or.inr rfl))) (fun _ _ _ _ _ => pts_nil) (fun _ _ _ _ _ => (pi_listK (K := K) rfl (pv 2))) (fun _ _ _ _ _ => (pg_name (i := 5) nd rfl (by first | exact Or.inl rfl | exact Or.inr rfl))) (fun _ _ _ _ _ => pts_one (pt_cmpR (op_inDK (K := K) rfl hu65) (pe_tup (pa_cons (pv 4) (pa_cons (pv 5) pa_nil))) (pv 1) (by rfl))) (fun _ _ _ _ _ => (pe_tup (pa_cons (pv 4) (pa_cons (pv 5) pa_nil))))) pa_nil))))), ?_⟩
    tm_at "xst"
    refine ⟨l, rfl, ⟨_, SqL.of hl⟩, fun D hD => ?_⟩
    refine lc_map walk_list (ns.map V.str) id rfl (by rw [List.length_map]; exact Nat.lt_of_le_of_lt h8 (by decide)) (fun o => SqL.of (at_new hD hl)) (fun i H x H' y => y) (fun i x o Q' hx q => ?_) ?_
    · obtain ⟨s, _, rfl⟩ := at_maps1 hx
      tm_at "xst"
      exact ⟨s, rfl, q⟩
    rw [List.map_id]
    tm_at "xst"
    refine q_sortedS (SqL.of upd_same) (by omega) fun ord p hp hs hfree => ?_
    have hol : ord.length ≤ 8 := by rw [hp.length_eq]; exact h8
    have e1 : Same H (upd (upd H D (.lst (ns.map V.str))) p (.lst (ord.map V.str))) := (Same.new hD).trans (Same.new hfree)
    generalize hH1 : upd (upd H D (.lst (ns.map V.str))) p (.lst (ord.map V.str)) = H1 at e1
    have hp1 : H1 p = some (.lst (ord.map V.str)) := by rw [← hH1]; exact upd_same
    have hk1 := hk.same e1
    tm_at "xst"
    refine ⟨p, rfl, ⟨_, SqL.of hp1⟩, fun D2 hD2 => ?_⟩
    have hgt : ∀ (i i1 : Nat) (x y : V) (ds : List (Option PyData)) (d : Option PyData), (ord.map V.str)[i]? = some x → (ord.map V.str)[i1]? = some y → (ascO ord ks)[i]? = some ds → ds[i1]? = some d → ∃ a b, x = .str a ∧ y = .str b ∧ a ∈ ns ∧ b ∈ ns ∧ d = (if ks.contains (a, b) = true then some (linkP (a, b)) else none) := by
      intro i i1 x y ds d hx hy hds hd
      obtain ⟨a, ha, rfl⟩ := at_maps1 hx
      obtain ⟨b, hb, rfl⟩ := at_maps1 hy
      unfold ascO at hds
      rw [List.getElem?_map, ha] at hds
      cases hds
      rw [List.getElem?_map, hb] at hd
      cases hd
      exact ⟨a, b, rfl, rfl, hp.mem_iff.mp (List.mem_of_getElem? ha), hp.mem_iff.mp (List.mem_of_getElem? hb), rfl⟩
    have wl : Walk (Itl K p) ord.length (fun H => SqL K H p (ord.map V.str)) (fun i H x H' => H' = H ∧ (ord.map V.str)[i]? = some x) := by have z := walk_list (K := K) (a := p) (xs := ord.map V.str); rw [List.length_map] at z; exact z
    refine lc2_td (n := ord.length) (n1 := ord.length) (J1 := Itl K p) wl wl (by decide) hD2 (ord.map V.str) (ord.map V.str) (ascO ord ks) (by unfold ascO; rw [List.length_map]) (fun ds h => ?_) (Nat.le_trans (Nat.mul_le_mul hol hol) (by decide)) (fun H e => SqL.of (e _ _ hp1)) (fun H e => SqL.of (e _ _ hp1)) (fun i H x H' y => y) (fun i H x H' y => y) (fun i x H R _ e q => ?_) (fun i i1 x y ds d H Q' hx hy hds hd e q => ?_) (fun i i1 x y ds d H Q' hx hy hds hd e q => ?_) (fun H2 e2 d2 => ?_)
    · unfold ascO at h
      obtain ⟨n, _, rfl⟩ := List.mem_map.mp h
      rw [List.length_map]
    · tm_at "xst"
      exact ⟨p, rfl, ⟨_, SqL.of (e _ _ hp1)⟩, q⟩
    · obtain ⟨a, b, rfl, rfl, ha, hb, rfl⟩ := hgt _ _ _ _ _ _ hx hy hds hd
      tm_at "xst"
      rename_i p0 hp0
      refine ⟨linkP (a, b), ks.map linkP, Td.dp _ _ (by unfold linkP; tm_at "xtd"), ((hk1.same e).same (Same.new hp0)).dp, linkP_shaped ⟨hsn a ha, hsn b hb⟩, linkPs_shaped hsk, ?_⟩
      refine ⟨_, rfl, ?_⟩
      rw [links_any]
      have z := q _ (Same.new (o := .tup [V.str a, V.str b]) hp0)
      by_cases hc : ks.contains (a, b) = true
      · rw [if_pos hc] at z
        rw [hc]
        exact z
      · rw [if_neg hc] at z
        rw [Bool.eq_false_iff.mpr hc]
        exact z
    · obtain ⟨a, b, rfl, rfl, ha, hb, hd0⟩ := hgt _ _ _ _ _ _ hx hy hds hd
      tm_at "xst"
      rename_i p0 hp0
      by_cases hc : ks.contains (a, b) = true
      · rw [if_pos hc] at hd0
        cases hd0
        exact q _ _ (Same.new hp0) (by unfold linkP; tm_at "xtd")
      · rw [if_neg hc] at hd0
        cases hd0
    rw [asc_flat] at d2
    obtain ⟨xs, hx2, ht2⟩ := d2
    tm_at "xst"
    refine q_tupOf (SqL.of hx2) fun t htf => ?_
    refine k ord t _ hp hs ((e1.trans e2).trans (Same.new htf)) ?_
    exact .tup upd_same (ht2.keep (.new htf))
end
end Toy
namespace Toy
open PySem PySem.Spec PyProof.Rows L2 Kx
def sp_is_link : Sp := fun vs H Q _ => ∃ (l t : Addr) (ns : List Str) (a b : Str), vs = [.ref l, .ref t] ∧ H l = some (.lst (ns.map V.str)) ∧ H t = some (.tup [.str a, .str b]) ∧ isNameS a = true ∧ isNameS b = true ∧ a ∈ ns ∧ b ∈ ns ∧ a.cps.toList < b.cps.toList ∧
  ∀ H', Same H H' → Q (.bl true) H'
section
variable {P : Program} {w : World} {K : PySem.W.Frag} {mg : Str → Option Value} {base : Heap}
theorem ok_is_link (T : Txt K mg) : FnOk P w K mg base CX0 2 T.a_is_link T.d_is_link ["names", "value"] sp_is_link := by
  have nd := sc_is_link.nd
  refine T.F_is_link.ok sc_is_link (fun vs H Q E h => ?_) (fun cdv A outer s H vs Q E hr h => ?_)
  · obtain ⟨l, t, ns, a, b, rfl, _⟩ := h; rfl
  · obtain ⟨l, t, ns, a, b, rfl, hl, ht, na, nb, ia, ib, lt, k⟩ := h
    have hu := hu_of hr
    refine ⟨_, (pss_cons (ps_if (PW.pt (pw_or (pt_not (pt_val (pe_callB (call_isiK' (K := K) rfl) (by rfl) T.no_isinstance (by decide +kernel) (pa_cons (pv 1) (pa_cons (pe_bltn (v := .ty "tuple") (u := .type "tuple") (by rfl) T.no_tuple (by decide +kernel) rfl) pa_nil))))) (pw_or1 (pt_cmpR op_ne (pe_callB (call_lenK (K := K) rfl) (by rfl) T.no_len (by decide +kernel) (pa_cons (pv 1) pa_nil)) (pe_int) (nomark _))))) (pss_one (ps_ret (pe_bl))) pss_nil)
      (pss_cons (ps_asg (pv 1) (pg_tupK (K := K) rfl 2 rfl (pgs_cons (pg_name (i := 2) nd rfl (by first | exact Or.inl rfl | exact Or.inr rfl)) (pgs_cons (pg_name (i := 3) nd rfl (by first | exact Or.inl rfl | exact Or.inr rfl)) pgs_nil))))
      (pss_cons (ps_if (PW.pt (pw_or (pt_not (pt_val (pe_call (ok_is_name T) (hr.mono (by decide)) rfl T.g_is_name T.k_is_name T.b_is_name .nil pass0 (pa_cons (pv 2) pa_nil)))) (pw_or1 (pt_not (pt_val (pe_call (ok_is_name T) (hr.mono (by decide)) rfl T.g_is_name T.k_is_name T.b_is_name .nil pass0 (pa_cons (pv 3) pa_nil))))))) (pss_one (ps_ret (pe_bl))) pss_nil)
      (pss_one (ps_ret ((pe_and (pe_cmpR (op_in_seqK (K := K) rfl) (pv 2) (pv 0) (by rfl)) (pe_and (pe_cmpR (op_in_seqK (K := K) rfl) (pv 3) (pv 0) (by rfl)) (pe_one (pe_cmpR op_lt_str (pv 2) (pv 3) (nomark _))))))))))), ?_⟩
    tm_at "xst"
    refine q_isTuple (.tup ht) ?_
    have e : (Kx.kindOf H (.ref t) == "tuple") = true := by simp [Kx.kindOf, ht]
    rw [e]
    tm_at "xst"
    tm_at "xdec"
    tm_at "xst"
    refine q_lenT (SqT.of ht) ?_
    tm_at "xst"
    refine iteF ?_
    tm_at "xst"
    refine q_gTup (SqT.of ht) rfl ?_
    tm_at "xst"
    refine ⟨_, rfl, .str a, (fun s e => by cases e; exact Nat.le_trans (isName_len na) (by decide)), fun H1 e1 => ?_⟩
    rw [show isNameV (.str a) = true from na]
    tm_at "xst"
    tm_at "xdec"
    tm_at "xst"
    refine ⟨_, rfl, .str b, (fun s e => by cases e; exact Nat.le_trans (isName_len nb) (by decide)), fun H2 e2 => ?_⟩
    rw [show isNameV (.str b) = true from nb]
    tm_at "xst"
    tm_at "xdec"
    have hl2 := e2 _ _ (e1 _ _ hl)
    tm_at "xst"
    refine ⟨l, _, rfl, .inl (SqL.of hl2), rfl, flat_strsV ns, ?_⟩
    refine ⟨true, by rw [if_neg Bool.false_ne_true, inV_strs, decide_eq_true ia], ?_⟩
    refine iteT ?_
    tm_at "xst"
    refine ⟨l, _, rfl, .inl (SqL.of hl2), rfl, flat_strsV ns, ?_⟩
    refine ⟨true, by rw [if_neg Bool.false_ne_true, inV_strs, decide_eq_true ib], ?_⟩
    refine iteT ?_
    tm_at "xst"
    refine q_leS ?_
    rw [decide_eq_true lt]
    exact k _ (e1.trans e2)
end
end Toy
namespace Toy
open PySem PySem.Spec PyProof.Rows L2 Kx
def sp_is_list : Sp := fun vs H Q _ => ∃ x, vs = [x] ∧ Any H x ∧ ∀ H', Same H H' → Q (.bl (kindOf H x == "list" || kindOf H x == "tuple")) H'
section
variable {P : Program} {w : World} {K : PySem.W.Frag} {mg : Str → Option Value} {base : Heap}
theorem ok_is_list (T : Txt K mg) : FnOk P w K mg base CX0 1 T.a_is_list T.d_is_list ["value"] sp_is_list := by
  have nd := sc_is_list.nd
  refine T.F_is_list.ok sc_is_list (fun vs H Q E h => ?_) (fun cdv A outer s H vs Q E hr h => ?_)
  · obtain ⟨x, rfl, _⟩ := h; rfl
  · obtain ⟨x, rfl, ha, k⟩ := h
    have hu := hu_of hr
    refine ⟨_, (pss_one (ps_ret (pe_callB (call_isiTK (K := K) rfl) (by rfl) T.no_isinstance (by decide +kernel) (pa_cons (pv 0) (pa_cons (pe_tup (pa_cons (pe_bltn (v := .ty "list") (u := .type "list") (by rfl) T.no_list (by decide +kernel) rfl) (pa_cons (pe_bltn (v := .ty "tuple") (u := .type "tuple") (by rfl) T.no_tuple (by decide +kernel) rfl) pa_nil))) pa_nil))))), ?_⟩
    tm_at "xst"
    rename_i p hp
    have e := Same.new (o := .tup [.ty "list", .ty "tuple"]) hp
    have hb := ha.same e
    have ek : kindOf (upd H p (.tup [.ty "list", .ty "tuple"])) x = kindOf H x := kindOf_same ha e
    refine ⟨x, p, [.ty "list", .ty "tuple"], _, [.type "list", .type "tuple"], _, rfl, upd_same, .cons (.ty _) (.cons (.ty _) .nil), hb.ty, kit_lt hb.mem, ?_⟩
    rw [ek]
    exact k _ e
end
end Toy
namespace Toy
open PySem PySem.Spec PyProof.Rows L2 Kx
def sp_check_links : Sp := fun vs H Q _ => ∃ (l ll : Addr) (ns : List Str) (ks : List (Str × Str)), vs = [.ref l, .ref ll] ∧ H l = some (.lst (ns.map V.str)) ∧ LstD H ll (ks.map linkP) ∧ ks.length ≤ 100 ∧ ks.Nodup ∧
  (∀ k ∈ ks, isNameS k.1 = true ∧ isNameS k.2 = true ∧ k.1 ∈ ns ∧ k.2 ∈ ns ∧ k.1.cps.toList < k.2.cps.toList) ∧ ∀ H', Same H H' → Q .non H'
section
variable {P : Program} {w : World} {K : PySem.W.Frag} {mg : Str → Option Value} {base : Heap}
theorem ok_check_links (T : Txt K mg) : FnOk P w K mg base CX0 3 T.a_check_links T.d_check_links ["names", "links"] sp_check_links := by
  have nd := sc_check_links.nd
  refine T.F_check_links.ok sc_check_links (fun vs H Q E h => ?_) (fun cdv A outer s H vs Q E hr h => ?_)
  · obtain ⟨l, ll, ns, ks, rfl, _⟩ := h; rfl
  · obtain ⟨l, ll, ns, ks, rfl, hl, hk, h100, nd0, hgood, k⟩ := h
    have hu := hu_of hr
    refine ⟨_, (pss_cons (ps_if (pt_not (pt_val (pe_call (ok_is_list T) (hr.mono (by decide)) rfl T.g_is_list T.k_is_list T.b_is_list .nil pass0 (pa_cons (pv 1) pa_nil)))) (pss_one (ps_never)) pss_nil)
      (pss_cons (ps_set (i := 2) nd rfl (by first | exact Or.inl rfl | exact Or.inr rfl) (pe_dnewT))
      (pss_one (ps_for PassesOwn.never rfl (pi_enum (by rfl) T.no_enumerate (pa_cons (pv 1) pa_nil)) (pg_tupK (K := K) rfl 2 rfl (pgs_cons (pg_name (i := 3) nd rfl (by first | exact Or.inl rfl | exact Or.inr rfl)) (pgs_cons (pg_name (i := 4) nd rfl (by first | exact Or.inl rfl | exact Or.inr rfl)) pgs_nil))) (pss_cons (ps_if (PW.pt (pw_or (pt_not (pt_val (pe_call (ok_is_link T) (hr.mono (by decide)) rfl T.g_is_link T.k_is_link T.b_is_link .nil pass0 (pa_cons (pv 0) (pa_cons (pv 4) pa_nil))))) (pw_or1 (pt_cmp (pc_din hu (pv 4) (pv 2)))))) (pss_one (ps_never)) pss_nil)
      (pss_one (ps_dput hu (pv 2) (pv 4) (pe_bl) rfl))))))), ?_⟩
    obtain ⟨xs, hx, hxs⟩ := hk
    have hlen : xs.length = ks.length := by rw [hxs.len, List.length_map]
    tm_at "xst"
    refine ⟨_, rfl, .lst hx, fun H1 e1 => ?_⟩
    have e : (Kx.kindOf H (.ref ll) == "list") = true := by simp [Kx.kindOf, hx]
    rw [e]
    tm_at "xst"
    tm_at "xdec"
    have hx1 := e1 _ _ hx
    tm_at "xst"
    rename_i d hd
    have e2 : Same H (upd H1 d (.dT [])) := e1.trans (Same.new hd)
    refine ⟨ll, xs, rfl, SqL.of (e2 _ _ hx), for_it walk_enum (fun i σ H' => ∃ v1 v2, σ = [some (.ref l), some (.ref ll), some (.ref d), v1, v2] ∧ Same H H' ∧ H' d = some (.dT (seenK ((ks.take i).map fun k => ([Sum.inr k.1, Sum.inr k.2] : List Key))))) ⟨none, none, rfl, e2, by rw [upd_same]; rfl⟩ (fun i σ H' _ ⟨_, _, _, e, _⟩ => SqL.of (e _ _ hx)) ?_ ?_⟩
    · rintro i x σ H' H'' hi ⟨v1, v2, rfl, e3, hdk⟩ ⟨Tp, y1, y2, rfl, hT, rfl, hy1, hy2⟩
      obtain ⟨dd, hdd0, htd⟩ := hxs.get hy2
      rw [List.getElem?_map] at hdd0
      cases ek : ks[i]? with
      | none => rw [ek] at hdd0; cases hdd0
      | some kk =>
        rw [ek] at hdd0
        cases hdd0
        obtain ⟨g1, g2, g3, g4, g5⟩ := hgood kk (List.mem_of_getElem? ek)
        cases htd with
        | tup ht hts =>
          cases hts with
          | cons a1 r1 =>
            cases a1
            cases r1 with
            | cons a2 r2 =>
              cases a2
              cases r2
              rename_i t
              have hnot : ([Sum.inr kk.1, Sum.inr kk.2] : List Key) ∉ (ks.take i).map fun k => ([Sum.inr k.1, Sum.inr k.2] : List Key) := by
                intro hz
                obtain ⟨u, hu, hue⟩ := List.mem_map.mp hz
                injection hue with q1 q2
                injection q2 with q2 _
                have hue : u = kk := Prod.ext (by injection q1) (by injection q2)
                refine nodup_at nd0 ek ?_
                rw [← hue]
                exact hu
              have eT := Same.new (o := .tup [y1, V.ref t]) hT
              refine q_gTup (SqT.of upd_same) rfl ?_
              tm_at "xst"
              refine ⟨l, t, ns, kk.1, kk.2, rfl, eT _ _ (e3 _ _ hl), eT _ _ (e3 _ _ ht), g1, g2, g3, g4, g5, fun H4 e4 => ?_⟩
              have hdk4 := e4 _ _ (eT _ _ hdk)
              have ht4 := e4 _ _ (eT _ _ (e3 _ _ ht))
              tm_at "xst"
              tm_at "xdec"
              tm_at "xst"
              refine ⟨_, rfl, _, rfl, d, _, rfl, DGet.t (k := [Sum.inr kk.1, Sum.inr kk.2]) hdk4 ht4, ?_⟩
              rw [seenK_get _ _ hnot]
              tm_at "xst"
              tm_at "xdec"
              tm_at "xst"
              refine ⟨_, rfl, _, rfl, d, _, rfl, DPut.t (k := [Sum.inr kk.1, Sum.inr kk.2]) hdk4 ht4 ?_, ?_⟩
              · unfold seenK
                rw [List.length_map, List.length_map, List.length_take]
                exact Nat.lt_of_le_of_lt (show min i ks.length ≤ 100 by omega) (by decide)
              rw [seenK_put _ _ hnot, take_snoc ek, List.map_append]
              refine ⟨_, _, rfl, ?_, ?_⟩
              · intro c o hc
                have : c ≠ d := by
                  rintro rfl
                  have h5 := e1.free hd
                  rw [hc] at h5
                  cases h5
                rw [upd_ne this]
                exact e4 _ _ (eT _ _ (e3 _ _ hc))
              · rw [upd_same]; rfl
    rintro σ H' ⟨v1, v2, rfl, e3, hdk⟩
    tm_at "xst"
    exact k _ e3
end
end Toy
namespace Toy
open PySem PySem.Spec PyProof.Rows L2 Kx
def sp_is_word : Sp := fun vs H Q _ => ∃ x w, vs = [x, .str w] ∧ Any H x ∧ Q (.bl (isWordV w x)) H
section
variable {P : Program} {w : World} {K : PySem.W.Frag} {mg : Str → Option Value} {base : Heap}
theorem ok_is_word (T : Txt K mg) : FnOk P w K mg base CX0 1 T.a_is_word T.d_is_word ["value", "word"] sp_is_word := by
  have nd := sc_is_word.nd
  refine T.F_is_word.ok sc_is_word (fun vs H Q E h => ?_) (fun cdv A outer s H vs Q E hr h => ?_)
  · obtain ⟨x, t, rfl, _⟩ := h; rfl
  · obtain ⟨x, w, rfl, ha, k⟩ := h
    have hu := hu_of hr
    refine ⟨_, (pss_one (ps_ret ((pe_and (pe_callB (call_isiK' (K := K) rfl) (by rfl) T.no_isinstance (by decide +kernel) (pa_cons (pv 0) (pa_cons (pe_bltn (v := .ty "str") (u := .type "str") (by rfl) T.no_str (by decide +kernel) rfl) pa_nil))) (pe_one (pe_cmpR op_eq (pv 0) (pv 1) (nomark _))))))), ?_⟩
    tm_at "xst"
    refine q_isStr ha ?_
    tm_at "xst"
    refine i_b (fun h1 => ?_) (fun h1 => ?_)
    · obtain ⟨s, rfl⟩ := kind_str ha h1
      tm_at "xst"
      exact k
    · rw [nword_of (kind_nstr h1)] at k
      exact k
end
end Toy
namespace Toy
open PySem PySem.Spec PyProof.Rows L2 Kx
def sp_is_memory : Sp := fun vs H Q _ => ∃ x, vs = [x] ∧ Any H x ∧ (∀ a xs, x = .ref a → H a = some (.tup xs) → ∀ v ∈ xs, Any H v) ∧ Q (.bl (isMemH H x)) H
section
variable {P : Program} {w : World} {K : PySem.W.Frag} {mg : Str → Option Value} {base : Heap}
theorem ok_is_memory (T : Txt K mg) : FnOk P w K mg base CX0 3 T.a_is_memory T.d_is_memory ["value"] sp_is_memory := by
  have nd := sc_is_memory.nd
  refine T.F_is_memory.ok sc_is_memory (fun vs H Q E h => ?_) (fun cdv A outer s H vs Q E hr h => ?_)
  · obtain ⟨x, rfl, _⟩ := h; rfl
  · obtain ⟨x, rfl, ha, hm, k⟩ := h
    have hu := hu_of hr
    refine ⟨_, (pss_cons (ps_if (PW.pt (pw_or (pt_not (pt_val (pe_callB (call_isiK' (K := K) rfl) (by rfl) T.no_isinstance (by decide +kernel) (pa_cons (pv 0) (pa_cons (pe_bltn (v := .ty "tuple") (u := .type "tuple") (by rfl) T.no_tuple (by decide +kernel) rfl) pa_nil))))) (pw_or1 (pt_not (pt_chain op_le op_le (pe_int) (pe_callB (call_lenK (K := K) rfl) (by rfl) T.no_len (by decide +kernel) (pa_cons (pv 0) pa_nil)) (pe_int)))))) (pss_one (ps_ret (pe_bl))) pss_nil)
      (pss_cons (ps_if (pt_cmpR op_eq (pe_callB (call_lenK (K := K) rfl) (by rfl) T.no_len (by decide +kernel) (pa_cons (pv 0) pa_nil)) (pe_int) (nomark _)) (pss_one (ps_ret (pe_call (ok_is_word T) (hr.mono (by decide)) rfl T.g_is_word T.k_is_word T.b_is_word .nil pass0 (pa_cons (pe_ix (ix_tupK (K := K) rfl) (pv 0) (pe_int) (fun _ _ => rfl)) (pa_cons (pe_str) pa_nil))))) pss_nil)
      (pss_cons (ps_asg (pv 0) (pg_tupK (K := K) rfl 2 rfl (pgs_cons (pg_name (i := 1) nd rfl (by first | exact Or.inl rfl | exact Or.inr rfl)) (pgs_cons (pg_name (i := 2) nd rfl (by first | exact Or.inl rfl | exact Or.inr rfl)) pgs_nil))))
      (pss_one (ps_ret ((pe_and ((pe_or (pe_call (ok_is_word T) (hr.mono (by decide)) rfl T.g_is_word T.k_is_word T.b_is_word .nil pass0 (pa_cons (pv 1) (pa_cons (pe_str) pa_nil))) (pe_one (pe_call (ok_is_word T) (hr.mono (by decide)) rfl T.g_is_word T.k_is_word T.b_is_word .nil pass0 (pa_cons (pv 1) (pa_cons (pe_str) pa_nil)))))) (pe_one (pe_call (ok_is_integer_to T) (hr.mono (by decide)) rfl T.g_is_integer_to T.k_is_integer_to T.b_is_integer_to .nil pass0 (pa_cons (pv 2) (pa_cons (pe_glob rfl T.g_TOP_REMEMBERED T.r_TOP_REMEMBERED) pa_nil))))))))))), ?_⟩
    tm_at "xst"
    refine q_isTuple ha ?_
    tm_at "xst"
    refine i_b (fun h1 => ?_) (fun h1 => ?_)
    · rw [isMemH_no ha (by simpa using h1)] at k
      exact k
    · obtain ⟨a, xs, rfl, h⟩ := kind_tup ha (by simpa using h1)
      have hm := hm a xs rfl h
      rw [isMemH_tup h] at k
      tm_at "xst"
      refine q_lenT (SqT.of h) ?_
      tm_at "xst"
      refine i_dec (fun h2 => ?_) (fun h2 => ?_)
      · tm_at "xst"
        refine i_ndec (fun h3 => ?_) (fun h3 => ?_)
        · rw [isMemT_len (by omega)] at k
          exact k
        · tm_at "xst"
          refine q_lenT (SqT.of h) ?_
          tm_at "xst"
          match xs, h, hm, k, h2, h3 with
          | [y], h, hm, k, _, _ =>
            refine iteT ?_
            tm_at "xst"
            refine q_ixT (SqT.of h) rfl ?_
            tm_at "xst"
            exact ⟨y, _, rfl, hm y (by simp), k⟩
          | [y, z], h, hm, k, _, _ =>
            refine iteF ?_
            tm_at "xst"
            refine ⟨a, [y, z], rfl, SqT.of h, rfl, _, _, rfl, _, _, rfl, rfl, ?_⟩
            tm_at "xst"
            refine ⟨y, _, rfl, hm y (by simp), ?_⟩
            tm_at "xst"
            refine i_b (fun h4 => ?_) (fun h4 => ?_)
            · tm_at "xst"
              refine ⟨z, _, rfl, hm z (by simp), ?_⟩
              simp only [isMemT, h4, Bool.true_or, Bool.true_and] at k
              exact k
            · tm_at "xst"
              refine ⟨y, _, rfl, hm y (by simp), ?_⟩
              tm_at "xst"
              refine i_b (fun h5 => ?_) (fun h5 => ?_)
              · tm_at "xst"
                refine ⟨z, _, rfl, hm z (by simp), ?_⟩
                simp only [isMemT, h4, h5, Bool.false_or, Bool.true_and] at k
                exact k
              · simp only [isMemT, h4, h5, Bool.false_or, Bool.false_and] at k
                exact k
          | [], _, _, _, h2, _ => simp at h2
          | _ :: _ :: _ :: _, _, _, _, _, h3 => simp at h3; omega
      · tm_at "xst"
        rw [isMemT_len (by omega)] at k
        exact k
end
end Toy
namespace Toy
open PySem PySem.Spec PyProof.Rows L2 Kx
def sp_check_parts : Sp := fun vs H Q _ => ∃ (mo tp : Int) (mm : Addr) (m : MemD) (b : Bool), vs = [.int mo, .ref mm, .int tp, .bl b] ∧ Td H (.ref mm) (memP m) ∧ MemOk m ∧ 0 ≤ mo ∧ mo ≤ 9 ∧ 0 ≤ tp ∧ tp ≤ 5 ∧ Q .non H
section
variable {P : Program} {w : World} {K : PySem.W.Frag} {mg : Str → Option Value} {base : Heap}
theorem ok_check_parts (T : Txt K mg) : FnOk P w K mg base CX0 4 T.a_check_parts T.d_check_parts ["money", "memory", "tops", "numbered"] sp_check_parts := by
  have nd := sc_check_parts.nd
  refine T.F_check_parts.ok sc_check_parts (fun vs H Q E h => ?_) (fun cdv A outer s H vs Q E hr h => ?_)
  · obtain ⟨mo, tp, mm, m, b, rfl, _⟩ := h; rfl
  · obtain ⟨mo, tp, mm, m, b, rfl, hm, hok, m0, m9, t0, t5, k⟩ := h
    have hu := hu_of hr
    refine ⟨_, (pss_cons (ps_if (pt_not (pt_val (pe_call (ok_is_integer_to T) (hr.mono (by decide)) rfl T.g_is_integer_to T.k_is_integer_to T.b_is_integer_to .nil pass0 (pa_cons (pv 0) (pa_cons (pe_glob rfl T.g_TOP_MONEY T.r_TOP_MONEY) pa_nil))))) (pss_one (ps_never)) pss_nil)
      (pss_cons (ps_if (pt_not (pt_val (pe_call (ok_is_memory T) (hr.mono (by decide)) rfl T.g_is_memory T.k_is_memory T.b_is_memory .nil pass0 (pa_cons (pv 1) pa_nil)))) (pss_one (ps_never)) pss_nil)
      (pss_cons (ps_if (pt_not (pt_val (pe_call (ok_is_integer_to T) (hr.mono (by decide)) rfl T.g_is_integer_to T.k_is_integer_to T.b_is_integer_to .nil pass0 (pa_cons (pv 2) (pa_cons (pe_glob rfl T.g_MOST_TOPS T.r_MOST_TOPS) pa_nil))))) (pss_one (ps_never)) pss_nil)
      (pss_one (ps_if (pt_not (pt_val (pe_call (ok_is_truth T) (hr.mono (by decide)) rfl T.g_is_truth T.k_is_truth T.b_is_truth .nil pass0 (pa_cons (pv 3) pa_nil)))) (pss_one (ps_never)) pss_nil))))), ?_⟩
    have hmm := memV_of hm
    tm_at "xst"
    refine ⟨_, _, rfl, .int mo, ?_⟩
    rw [intTo_of m0 m9]
    tm_at "xst"
    tm_at "xdec"
    tm_at "xst"
    refine ⟨_, rfl, .tup hmm, (fun a xs e h => by cases e; rw [hmm] at h; cases h; exact memV_any), ?_⟩
    rw [isMemH_tup hmm, memV_ok hok]
    tm_at "xst"
    tm_at "xdec"
    tm_at "xst"
    refine ⟨_, _, rfl, .int tp, ?_⟩
    rw [intTo_of t0 t5]
    tm_at "xst"
    tm_at "xdec"
    tm_at "xst"
    refine ⟨_, rfl, .bl b, ?_⟩
    tm_at "xst"
    tm_at "xdec"
    tm_at "xst"
    exact k
end
end Toy
namespace Toy
open PySem PySem.Spec PyProof.Rows L2 Kx
def sp_check_tills (cC : Addr) : Sp := fun vs H Q _ => ∃ (l : Addr) (rs : List V) (ts : List TillD), vs = [.ref l] ∧ H l = some (.lst rs) ∧ All2 (fun v t => ∃ x, v = V.ref x ∧ TillAt cC H x t) rs ts ∧ 1 ≤ ts.length ∧ ts.length ≤ 4 ∧ (ts.map (·.name)).Nodup ∧ ∀ H', Same H H' → Q .non H'
section
variable {P : Program} {w : World} {K : PySem.W.Frag} {mg : Str → Option Value} {base : Heap}
theorem ok_check_tills (T : Txt K mg) : FnOk P w K mg base CX0 2 T.a_check_tills T.d_check_tills ["tills"] (sp_check_tills T.c_Till) := by
  have nd := sc_check_tills.nd
  refine T.F_check_tills.ok sc_check_tills (fun vs H Q E h => ?_) (fun cdv A outer s H vs Q E hr h => ?_)
  · obtain ⟨l, rs, ts, rfl, _⟩ := h; rfl
  · obtain ⟨l, rs, ts, rfl, hl, ha, h1, h4, nd0, k⟩ := h
    have hu := hu_of hr
    refine ⟨_, (pss_cons (ps_if (PW.pt (pw_or (pt_not (pt_val (pe_call (ok_is_list T) (hr.mono (by decide)) rfl T.g_is_list T.k_is_list T.b_is_list .nil pass0 (pa_cons (pv 0) pa_nil)))) (pw_or1 (pt_cmpR op_eq (pe_callB (call_lenK (K := K) rfl) (by rfl) T.no_len (by decide +kernel) (pa_cons (pv 0) pa_nil)) (pe_int) (nomark _))))) (pss_one (ps_never)) pss_nil)
      (pss_cons (ps_set (i := 1) nd rfl (by first | exact Or.inl rfl | exact Or.inr rfl) (pe_dnewK))
      (pss_cons (ps_for PassesOwn.never rfl (pi_enum (by rfl) T.no_enumerate (pa_cons (pv 0) pa_nil)) (pg_tupK (K := K) rfl 2 rfl (pgs_cons (pg_name (i := 2) nd rfl (by first | exact Or.inl rfl | exact Or.inr rfl)) (pgs_cons (pg_name (i := 3) nd rfl (by first | exact Or.inl rfl | exact Or.inr rfl)) pgs_nil))) (pss_cons (ps_if (PW.pt (pw_or (pt_not (pt_val (pe_callB (call_isiK' (K := K) rfl) (by rfl) T.no_isinstance (by decide +kernel) (pa_cons (pv 3) (pa_cons (pe_glob (v := .ref T.c_Till) rfl T.g_Till rfl) pa_nil))))) (pw_or1 (pt_cmp (pc_din hu (pe_fldK (K := K) rfl (pv 3) rfl) (pv 1)))))) (pss_one (ps_never)) pss_nil)
      (pss_one (ps_dput hu (pv 1) (pe_fldK (K := K) rfl (pv 3) rfl) (pe_bl) rfl))))
      (pss_one (ps_if (pt_cmpR op_gt (pe_callB (call_lenK (K := K) rfl) (by rfl) T.no_len (by decide +kernel) (pa_cons (pv 0) pa_nil)) (pe_glob rfl T.g_MOST_TILLS T.r_MOST_TILLS) (nomark _)) (pss_one (ps_never)) pss_nil))))), ?_⟩
    have hlen := ha.length_eq
    tm_at "xst"
    refine ⟨_, rfl, .lst hl, fun H1 e1 => ?_⟩
    have e : (Kx.kindOf H (.ref l) == "list") = true := by simp [Kx.kindOf, hl]
    rw [e]
    tm_at "xst"
    tm_at "xdec"
    have hl1 := e1 _ _ hl
    tm_at "xst"
    refine q_lenL (SqL.of hl1) ?_
    tm_at "xst"
    refine i_noD (fun z => by injection z with z; omega) ?_
    tm_at "xst"
    rename_i d hd
    have e2 : Same H (upd H1 d (.dK [])) := e1.trans (Same.new hd)
    refine ⟨l, rs, rfl, SqL.of (e2 _ _ hl), for_it walk_enum (fun i σ H' => ∃ v1 v2, σ = [some (.ref l), some (.ref d), v1, v2] ∧ Same H H' ∧ H' d = some (.dK (seenK ((ts.take i).map fun t => (Sum.inr t.name : Key))))) ⟨none, none, rfl, e2, by rw [upd_same]; rfl⟩ (fun i σ H' _ ⟨_, _, _, e, _⟩ => SqL.of (e _ _ hl)) ?_ ?_⟩
    · rintro i x σ H' H'' hi ⟨v1, v2, rfl, e3, hdk⟩ ⟨Tp, y1, y2, rfl, hT, rfl, hy1, hy2⟩
      obtain ⟨t, ht, xx, rfl, dx, hx⟩ := ha.get hy2
      have hxx : (upd H' Tp (.tup [y1, V.ref xx])) xx = some (.ins _ dx (tillF t)) := at_new hT (e3 _ _ hx)
      have hdd : (upd H' Tp (.tup [y1, V.ref xx])) d = some (.dK (seenK ((ts.take i).map fun t => (Sum.inr t.name : Key)))) := at_new hT hdk
      have hnot : (Sum.inr t.name : Key) ∉ (ts.take i).map fun t => (Sum.inr t.name : Key) := by
        intro hz
        obtain ⟨u, hu, hue⟩ := List.mem_map.mp hz
        have hue : u.name = t.name := by injection hue
        have h3 : (ts.map (·.name))[i]? = some t.name := by rw [List.getElem?_map, ht]; rfl
        refine nodup_at nd0 h3 ?_
        rw [← List.map_take]
        exact List.mem_map.mpr ⟨u, hu, hue⟩
      refine q_gTup (SqT.of upd_same) rfl ?_
      tm_at "xst"
      refine q_isOwn hxx T.cl_Till T.ic_Till T.sp_cls T.tk_cls T.mr_Till T.ki_Till ?_
      tm_at "xst"
      tm_at "xdec"
      tm_at "xst"
      refine ⟨_, rfl, xx, T.c_Till, dx, _, _, rfl, hxx, T.cl_Till, T.n_Till_name, by tm_at "xlk", ?_⟩
      refine ⟨_, rfl, d, _, rfl, DGet.k (k := Sum.inr t.name) hdd, ?_⟩
      rw [seenK_get _ _ hnot]
      tm_at "xst"
      tm_at "xdec"
      tm_at "xst"
      refine ⟨_, rfl, _, rfl, xx, T.c_Till, dx, _, _, rfl, hxx, T.cl_Till, T.n_Till_name, by tm_at "xlk", d, _, rfl, DPut.k (k := Sum.inr t.name) hdd ?_, ?_⟩
      · unfold seenK
        rw [List.length_map, List.length_map, List.length_take]
        exact Nat.lt_of_le_of_lt (show min i ts.length ≤ 4 by omega) (by decide)
      rw [seenK_put _ _ hnot, take_snoc ht, List.map_append]
      refine ⟨_, _, rfl, ?_, ?_⟩
      · intro c o hc
        have : c ≠ d := by
          rintro rfl
          have h5 := e1.free hd
          rw [hc] at h5
          cases h5
        rw [upd_ne this]
        exact at_new hT (e3 _ _ hc)
      · rw [upd_same]; rfl
    rintro σ H' ⟨v1, v2, rfl, e3, hdk⟩
    tm_at "xst"
    refine q_lenL (SqL.of (e3 _ _ hl)) ?_
    tm_at "xst"
    refine i_noD (by omega) ?_
    tm_at "xst"
    exact k _ e3
end
end Toy
namespace Toy
open PySem PySem.Spec PyProof.Rows L2 Kx
def sp_Town_init (cT cC : Addr) : Sp := fun vs H Q _ => ∃ (x dx l ll mm : Addr) (rs : List V) (M : ModelD) (known : List Str), vs = [.ref x, .ref l, .ref ll, .int M.money, .ref mm, .int M.tops, .bl M.numbered] ∧ H x = some (.ins cT dx []) ∧ Good M ∧
  H l = some (.lst rs) ∧ All2 (fun v t => ∃ x, v = V.ref x ∧ TillAt cC H x t) rs M.tills ∧ LstD H ll (M.links.map linkP) ∧ M.links.length ≤ 100 ∧ Td H (.ref mm) (memP M.memory) ∧ known.Perm M.names ∧ sortedS known = true ∧ M.links = ascL known M.links ∧
  ∀ H', TownAt cT cC H' x M → But x H H' → Q .non H'
theorem town_put (a b c d e f g : V) : putF "numbered" g (putF "tops" f (putF "memory" e (putF "money" d (putF "links" c (putF "_by_name" b (putF "_tills" a [])))))) = ([("_tills", a), ("_by_name", b), ("links", c), ("money", d), ("memory", e), ("tops", f), ("numbered", g)] : List (Str × V)) := by
  repeat (first | rw [putF_nil] | rw [putF_ne (by decide +kernel)])
section
variable {P : Program} {w : World} {K : PySem.W.Frag} {mg : Str → Option Value} {base : Heap}
theorem ok_Town_init (T : Txt K mg) : FnOk P w K mg base CX0 5 T.a_Town_init T.d_Town_init ["self", "tills", "links", "money", "memory", "tops", "numbered"] (sp_Town_init T.c_Town T.c_Till) := by
  have nd := sc_Town_init.nd
  refine T.F_Town_init.ok sc_Town_init (fun vs H Q E h => ?_) (fun cdv A outer s H vs Q E hr h => ?_)
  · obtain ⟨x, dx, l, ll, mm, rs, M, known, rfl, _⟩ := h; rfl
  · obtain ⟨x, dx, l, ll, mm, rs, M, known, rfl, hx, g, hl, ha, hk, h100, hm, hp, hs, hasc, k⟩ := h
    have hu := hu_of hr
    refine ⟨_, (pss_cons (ps_expr (pe_call (ok_check_tills T) (hr.mono (by decide)) rfl T.g_check_tills T.k_check_tills T.b_check_tills .nil pass0 (pa_cons (pv 1) pa_nil)))
      (pss_cons (ps_setLc (i := 7) (own := [("till", 8)]) rfl nd rfl rfl (sw_true rfl rfl rfl (by decide +kernel)) (pi_listK (K := K) rfl (pv 1)) (blkOk_by (N := ["self", "tills", "links", "money", "memory", "tops", "numbered", "names", "till"]) (sc := defScope s_Town_init) (by decide +kernel)) (fun _ _ _ _ _ => (pg_name (i := 8) nd rfl (by first | exact Or.inl rfl | exact Or.inr rfl))) (fun _ _ _ _ _ => pts_nil) (fun _ _ _ _ _ => (pe_fldK (K := K) rfl (pv 8) rfl)))
      (pss_cons (ps_expr (pe_call (ok_check_links T) (hr.mono (by decide)) rfl T.g_check_links T.k_check_links T.b_check_links .nil pass0 (pa_cons (pv 7) (pa_cons (pv 2) pa_nil))))
      (pss_cons (ps_expr (pe_call (ok_check_parts T) (hr.mono (by decide)) rfl T.g_check_parts T.k_check_parts T.b_check_parts .nil pass0 (pa_cons (pv 3) (pa_cons (pv 4) (pa_cons (pv 5) (pa_cons (pv 6) pa_nil))))))
      (pss_cons (ps_fld (pv 0) (pe_callTy (call_tuple_ofK (K := K) rfl) (by rfl) T.no_tuple (by decide +kernel) (pa_cons (pv 1) pa_nil)) rfl)
      (pss_cons (ps_fld (pv 0) (pe_dc (own := [("till", 8)]) rfl nd (pi_listK (K := K) rfl (pv 1)) (blkOk_by (N := ["self", "tills", "links", "money", "memory", "tops", "numbered", "names", "till"]) (sc := defScope s_Town_init) (by decide +kernel)) (fun _ _ _ _ _ => (pg_name (i := 8) nd rfl (by first | exact Or.inl rfl | exact Or.inr rfl))) (fun _ _ _ _ _ => pts_nil) (fun _ _ _ _ _ => (pe_fldK (K := K) rfl (pv 8) rfl)) (fun _ _ _ _ _ => (pv 8))) rfl)
      (pss_cons (ps_fld (pv 0) (pe_call (ok_ascending_links T) (hr.mono (by decide)) rfl T.g_ascending_links T.k_ascending_links T.b_ascending_links .nil pass0 (pa_cons (pv 7) (pa_cons (pv 2) pa_nil))) rfl)
      (pss_cons (ps_fld (pv 0) (pv 3) rfl)
      (pss_cons (ps_fld (pv 0) (pv 4) rfl)
      (pss_cons (ps_fld (pv 0) (pv 5) rfl)
      (pss_one (ps_fld (pv 0) (pv 6) rfl)))))))))))), ?_⟩
    have hlen := ha.length_eq
    have hxl : x ≠ l := fun z => by rw [z, hl] at hx; cases hx
    tm_at "xst"
    refine ⟨l, rs, M.tills, rfl, hl, ha, g.t1, g.t4, g.nd, fun H1 e1 => ?_⟩
    tm_at "xst"
    refine ⟨l, rfl, ⟨_, SqL.of (e1 _ _ hl)⟩, fun D hD => ?_⟩
    refine lc_idx walk_list rs (M.names.map V.str) rfl (by rw [hlen, List.length_map, names_len]) (by rw [hlen]; exact Nat.lt_of_le_of_lt g.t4 (by decide)) (fun o => SqL.of (at_new hD (e1 _ _ hl))) (fun i H x H' y => y) (fun i x y o Q' hx hy q => ?_) ?_
    · obtain ⟨t, ht, a, rfl, hta⟩ := ha.get hx
      obtain ⟨dt, hta⟩ := hta
      obtain ⟨n, hn, rfl⟩ := at_maps1 hy
      have : n = t.name := by
        unfold ModelD.names at hn
        rw [List.getElem?_map, ht] at hn
        cases hn
        rfl
      subst this
      tm_at "xst"
      refine q_fld (at_new hD (e1 _ _ hta)) T.cl_Till T.n_Till_name (by unfold tillF; tm_at "xlk") ?_
      exact q
    have e2 : Same H (upd H1 D (.lst (M.names.map V.str))) := e1.trans (Same.new hD)
    have hD2 : (upd H1 D (.lst (M.names.map V.str))) D = some (.lst (M.names.map V.str)) := upd_same
    generalize upd H1 D (.lst (M.names.map V.str)) = H2 at e2 hD2
    tm_at "xst"
    have okN : ∀ n ∈ M.names, PyData.strOk n = true := fun n hn => isName_ok (g.name hn)
    have okK : ∀ k ∈ M.links, okL k := fun k hk => ⟨okN _ (g.lk k hk).1, okN _ (g.lk k hk).2.1⟩
    refine ⟨D, ll, M.names, M.links, rfl, hD2, hk.same e2, h100, g.ln, fun k hk => ⟨g.name (g.lk k hk).1, g.name (g.lk k hk).2.1, g.lk k hk⟩, fun H3 e3 => ?_⟩
    tm_at "xst"
    refine ⟨M.money, M.tops, mm, M.memory, M.numbered, rfl, hm.keep (.same (e2.trans e3)) _ _, ?_, g.mo.1, g.mo.2, g.tp.1, g.tp.2, ?_⟩
    · have z := g.me
      cases e : M.memory with
      | nothing => exact True.intro
      | times n => rw [e] at z; exact z
      | sum n => rw [e] at z; exact z
    have e4 := e2.trans e3
    have hl3 := e4 _ _ hl
    have hx3 := e4 _ _ hx
    have hD3 := e3 _ _ hD2
    tm_at "xst"
    refine q_tupOf (SqL.of hl3) fun tt htt => ?_
    have hx4 := at_new (o := .tup rs) htt hx3
    tm_at "xst"
    refine q_sfld hx4 T.cl_Town T.n_Town__tills (by tm_at "xlen") ?_
    have m1 : Mut x H3 (upd H3 tt (.tup rs)) := .same (Same.new htt)
    have m2 := m1.trans (Mut.ins (o := .ins T.c_Town dx (putF "_tills" (.ref tt) [])) hx4)
    have htt2 : (upd (upd H3 tt (.tup rs)) x (.ins T.c_Town dx (putF "_tills" (.ref tt) []))) tt = some (.tup rs) := by
      rw [upd_ne (ne_of upd_same hx4 (fun z => nomatch z))]
      exact upd_same
    have hx5 : (upd (upd H3 tt (.tup rs)) x (.ins T.c_Town dx (putF "_tills" (.ref tt) []))) x = some (.ins T.c_Town dx (putF "_tills" (.ref tt) [])) := upd_same
    generalize upd (upd H3 tt (.tup rs)) x (.ins T.c_Town dx (putF "_tills" (.ref tt) [])) = H4 at m2 htt2 hx5
    have hl4 : H4 l = some (.lst rs) := m2.b _ _ (fun z => hxl z.symm) hl3
    have ha4 : ∀ a t, TillAt T.c_Till H a t → a ≠ x → TillAt T.c_Till H4 a t := fun a t h n => let ⟨dt, h⟩ := h; ⟨dt, m2.b _ _ n (e4 _ _ h)⟩
    have nx : ∀ a t, TillAt T.c_Till H a t → a ≠ x := fun a t h => let ⟨dt, h⟩ := h; ne_of h hx (fun z => by injection z with _ _ z; cases z)
    tm_at "xst"
    refine ⟨l, rfl, ⟨_, SqL.of hl4⟩, fun bn hbn => ?_⟩
    refine dc_idx walk_list rs (M.names.map Sum.inr) rs rfl (by rw [hlen, List.length_map, names_len]) rfl (nodup_inr g.nd) (by rw [hlen]; exact Nat.lt_of_le_of_lt g.t4 (by decide)) (fun o => SqL.of (at_new hbn hl4)) (fun i H x H' y => y) (fun i y kk v o Q' hy hkk hv q => ?_) ?_
    · obtain ⟨t, ht, a, rfl, hta⟩ := ha.get hy
      rw [hy] at hv
      cases hv
      obtain ⟨dt, hta4⟩ := ha4 a t hta (nx a t hta)
      have : kk = Sum.inr t.name := by
        unfold ModelD.names at hkk
        rw [List.getElem?_map, List.getElem?_map, ht] at hkk
        cases hkk
        rfl
      subst this
      tm_at "xst"
      refine q_fld (at_new hbn hta4) T.cl_Till T.n_Till_name (by unfold tillF; tm_at "xlk") ?_
      tm_at "xst"
      exact q
    have hx6 := at_new (o := .dK ((M.names.map Sum.inr).zip rs)) hbn hx5
    tm_at "xst"
    refine q_sfld hx6 T.cl_Town T.n_Town__by_name (by tm_at "xlen") ?_
    have m3 : Mut x H4 (upd H4 bn (.dK ((M.names.map Sum.inr).zip rs))) := .same (Same.new hbn)
    have m4 := m2.trans (m3.trans (Mut.ins (o := .ins T.c_Town dx (putF "_by_name" (.ref bn) (putF "_tills" (.ref tt) []))) hx6))
    have hbn5 : (upd (upd H4 bn (.dK ((M.names.map Sum.inr).zip rs))) x (.ins T.c_Town dx (putF "_by_name" (.ref bn) (putF "_tills" (.ref tt) [])))) bn = some (.dK ((M.names.map Sum.inr).zip rs)) := by
      rw [upd_ne (ne_of upd_same hx6 (fun z => nomatch z))]
      exact upd_same
    have htt5 := (m3.trans (Mut.ins (o := .ins T.c_Town dx (putF "_by_name" (.ref bn) (putF "_tills" (.ref tt) []))) hx6)).t _ _ htt2
    have hx7 : (upd (upd H4 bn (.dK ((M.names.map Sum.inr).zip rs))) x (.ins T.c_Town dx (putF "_by_name" (.ref bn) (putF "_tills" (.ref tt) [])))) x = some (.ins T.c_Town dx (putF "_by_name" (.ref bn) (putF "_tills" (.ref tt) []))) := upd_same
    generalize upd (upd H4 bn (.dK ((M.names.map Sum.inr).zip rs))) x (.ins T.c_Town dx (putF "_by_name" (.ref bn) (putF "_tills" (.ref tt) []))) = H5 at m4 hbn5 htt5 hx7
    have hD5 := m4.b _ _ (ne_of hD3 hx3 (fun z => nomatch z)) hD3
    have hk5 := (hk.same e4).mut hx3 m4
    tm_at "xst"
    refine ⟨D, ll, M.names, M.links, rfl, hD5, by rw [names_len]; exact Nat.le_trans g.t4 (by decide), hk5, okN, okK, fun ord lk H6 hpo hso e6 hlk => ?_⟩
    have eo : ord = known := sorted_one hso hs (hpo.trans hp.symm)
    subst eo
    rw [← hasc] at hlk
    have hx8 := e6 _ _ hx7
    tm_at "xst"
    refine q_sfld hx8 T.cl_Town T.n_Town_links (by tm_at "xlen") ?_
    tm_at "xst"
    refine q_sfld upd_same T.cl_Town T.n_Town_money (by tm_at "xlen") ?_
    tm_at "xst"
    refine q_sfld upd_same T.cl_Town T.n_Town_memory (by tm_at "xlen") ?_
    tm_at "xst"
    refine q_sfld upd_same T.cl_Town T.n_Town_tops (by tm_at "xlen") ?_
    tm_at "xst"
    refine q_sfld upd_same T.cl_Town T.n_Town_numbered (by tm_at "xlen") ?_
    rw [upd_upd, upd_upd, upd_upd, upd_upd]
    generalize hfs : putF "numbered" (.bl M.numbered) _ = fs
    have m6 : Mut x H6 (upd H6 x (.ins T.c_Town dx fs)) := .ins hx8
    have m7 : Mut x H (upd H6 x (.ins T.c_Town dx fs)) := (Mut.same e4).trans (m4.trans ((Mut.same e6).trans m6))
    refine k _ ⟨g, dx, tt, bn, lk, mm, rs, ?_, ?_, ?_, ?_, ?_, ?_⟩ m7.b
    · rw [upd_same, ← hfs]
      rw [town_put]
    · exact m6.t _ _ (e6 _ _ htt5)
    · refine ha.imp fun v t h => ?_
      obtain ⟨a, ev, h⟩ := h
      have n := nx a t h
      obtain ⟨dt, h⟩ := h
      exact ⟨a, ev, dt, m7.b _ _ n h⟩
    · have e := m6.b _ _ (ne_of (e6 _ _ hbn5) hx8 (fun z => nomatch z)) (e6 _ _ hbn5)
      rw [e, zip_inr]
    · exact hlk.keep m6.t _ _
    · exact hm.keep m7.t _ _
end
end Toy
namespace Toy
open PySem PySem.Spec PyProof.Rows L2 Kx
def sp__law_made (cT cC : Addr) : Sp := fun vs H Q _ => ∃ (m tl ll mm : Addr) (M : ModelD) (known : List Str), vs = [.ref m] ∧ ModelAt H m M tl ll mm ∧ Good M ∧ M.links.length ≤ 100 ∧ known.Perm M.names ∧ sortedS known = true ∧ M.links = ascL known M.links ∧
  ∀ a H', H a = none → Same H H' → TownAt cT cC H' a M → Q (.ref a) H'
section
variable {P : Program} {w : World} {K : PySem.W.Frag} {mg : Str → Option Value} {base : Heap}
theorem ok__law_made (T : Txt K mg) : FnOk P w K mg base CX0 7 T.a__law_made T.d__law_made ["_law_model_here"] (sp__law_made T.c_Town T.c_Till) := by
  have nd := sc__law_made.nd
  refine T.F__law_made.ok sc__law_made (fun vs H Q E h => ?_) (fun cdv A outer s H vs Q E hr h => ?_)
  · obtain ⟨m, tl, ll, mm, M, known, rfl, _⟩ := h; rfl
  · obtain ⟨m, tl, ll, mm, M, known, rfl, hM, g, h100, hp, hs, hasc, k⟩ := h
    have hu := hu_of hr
    refine ⟨_, (pss_cons (ps_setLc (i := 1) (own := [("_law_name", 6), ("_law_limit", 7), ("_law_heed", 8)]) rfl nd rfl rfl (sw_true rfl rfl rfl (by decide +kernel)) (pi_listK (K := K) rfl (pe_dget hu (pv 0) (pe_str) (fun _ _ => rfl))) (blkOk_by (N := ["_law_model_here", "_law_tills", "_law_cash", "_law_memo", "_law_gives", "_law_marked", "_law_name", "_law_limit", "_law_heed"]) (sc := defScope s__law_made) (by decide +kernel)) (fun _ _ _ _ _ => (pg_tupK (K := K) rfl 3 rfl (pgs_cons (pg_name (i := 6) nd rfl (by first | exact Or.inl rfl | exact Or.inr rfl)) (pgs_cons (pg_name (i := 7) nd rfl (by first | exact Or.inl rfl | exact Or.inr rfl)) (pgs_cons (pg_name (i := 8) nd rfl (by first | exact Or.inl rfl | exact Or.inr rfl)) pgs_nil))))) (fun _ _ _ _ _ => pts_nil) (fun _ _ _ _ _ => (pe_makeK T.mk_Till (ok_Till_init T) (hr.mono (by decide)) rfl T.g_Till T.kb_Till_init_2_heeds pass0 (pa_cons (pv 6) (pa_cons (pv 7) pa_nil)) (pk_cons (pv 8) pk_nil))))
      (pss_cons (ps_par (i := 2) (j := 3) (by rfl) nd rfl rfl (by decide) rfl rfl (pa_cons (pe_dget hu (pv 0) (pe_str) (fun _ _ => rfl)) (pa_cons (pe_dget hu (pv 0) (pe_str) (fun _ _ => rfl)) pa_nil)) (by rfl))
      (pss_cons (ps_par (i := 4) (j := 5) (by rfl) nd rfl rfl (by decide) rfl rfl (pa_cons (pe_dget hu (pv 0) (pe_str) (fun _ _ => rfl)) (pa_cons (pe_dget hu (pv 0) (pe_str) (fun _ _ => rfl)) pa_nil)) (by rfl))
      (pss_one (ps_ret (pe_makeK T.mk_Town (ok_Town_init T) (hr.mono (by decide)) rfl T.g_Town T.kb_Town_init_1_links_money_memory_tops_numbered pass0 (pa_cons (pv 1) pa_nil) (pk_cons (pe_dget hu (pv 0) (pe_str) (fun _ _ => rfl)) (pk_cons (pv 2) (pk_cons (pv 3) (pk_cons (pv 4) (pk_cons (pv 5) pk_nil))))))))))), ?_⟩
    obtain ⟨xs, hx, hxs⟩ := hM.tills
    have hlen : xs.length = M.tills.length := by rw [hxs.len, List.length_map]
    tm_at "xst"
    refine q_dgetS hM.d (by unfold modelK; tm_at "xval") ?_
    refine ⟨tl, rfl, ⟨_, SqL.of hx⟩, fun D hD => ?_⟩
    refine lc_it (walk_list (K := K) (a := tl) (xs := xs)) (fun i H' => Same H H' ∧ ∃ rs, H' D = some (.lst rs) ∧ All2 (fun v t => ∃ x, v = V.ref x ∧ TillAt T.c_Till H' x t) rs (M.tills.take i)) ⟨Same.new hD, [], upd_same, .nil⟩ (fun i H' _ e => SqL.of (e.1 _ _ hx)) (fun i x H1 H2 hi => ?_) (fun H2 => ?_)
    · rintro ⟨e1, rs, hrs, ha⟩ ⟨rfl, hxi⟩
      obtain ⟨d, hd, htd⟩ := hxs.get hxi
      obtain ⟨t, ht, rfl⟩ : ∃ t, M.tills[i]? = some t ∧ d = tillP t := by
        rw [List.getElem?_map] at hd
        cases e : M.tills[i]? with
        | none => rw [e] at hd; cases hd
        | some t => rw [e] at hd; cases hd; exact ⟨t, rfl, rfl⟩
      cases htd with
      | tup hta hts =>
        cases hts with
        | cons a1 r1 =>
          cases a1
          cases r1 with
          | cons a2 r2 =>
            cases a2
            cases r2 with
            | cons a3 r3 =>
              cases a3
              cases r3
              rename_i a
              have htm := List.mem_of_getElem? ht
              refine q_gTup (SqT.of (e1 _ _ hta)) rfl ?_
              tm_at "xst"
              refine ⟨rfl, ?_⟩
              tm_at "xst"
              refine ⟨rfl, rfl, fun x dx hx hdx hne => ⟨x, dx, t, rfl, upd_same, g.nm t htm, (g.lm t htm).1, (g.lm t htm).2, fun H3 h3 b3 => ⟨rfl, ?_⟩⟩⟩
              have e3 := same_make hx hdx b3
              refine ⟨rs, e3 _ _ hrs, ?_, Same.mut (e1.trans e3) hD, rs ++ [V.ref x], upd_same, ?_⟩
              · rw [ha.length_eq, List.length_take]
                exact Nat.lt_of_le_of_lt (show min i M.tills.length ≤ 4 by have := g.t4; omega) (by decide)
              · rw [take_snoc ht]
                refine All2.snoc (ha.imp fun v t h => ?_) ⟨x, rfl, TillAt.upd ⟨dx, h3⟩ (e3 _ _ hrs)⟩
                obtain ⟨y, ev, h⟩ := h
                exact ⟨y, ev, (h.same e3).upd (e3 _ _ hrs)⟩
    rintro ⟨e1, rs, hrs, ha⟩
    rw [hlen, List.take_length] at ha
    have hM2 := hM.same e1
    tm_at "xst"
    refine q_dgetS hM2.d (by unfold modelK; tm_at "xval") ?_
    tm_at "xst"
    refine q_dgetS hM2.d (by unfold modelK; tm_at "xval") ?_
    tm_at "xst"
    refine q_dgetS hM2.d (by unfold modelK; tm_at "xval") ?_
    tm_at "xst"
    refine q_dgetS hM2.d (by unfold modelK; tm_at "xval") ?_
    tm_at "xst"
    refine q_dgetS hM2.d (by unfold modelK; tm_at "xval") ?_
    tm_at "xst"
    refine ⟨rfl, rfl, fun x dx hx hdx hne => ?_⟩
    have e3 : Same H2 (upd (upd H2 dx (.own x)) x (.ins T.c_Town dx [])) := (Same.new hdx).trans (Same.new (by rw [upd_ne (Ne.symm hne)]; exact hx))
    refine ⟨x, dx, D, ll, mm, rs, M, known, rfl, upd_same, g, e3 _ _ hrs, ha.imp (fun v t h => by obtain ⟨y, ev, h⟩ := h; exact ⟨y, ev, h.same e3⟩), hM2.links.same e3, h100, hM2.mem.keep (.same e3) _ _, hp, hs, hasc, fun H3 hT b3 => ⟨rfl, ?_⟩⟩
    exact k x H3 (e1.free hx) (e1.trans (same_make hx hdx b3)) hT
end
end Toy
namespace Toy
open PySem PySem.Spec PyProof.Rows L2 Kx
def sp__law_draw : Sp := fun vs H Q _ => ∃ (p : Addr) (n : Int), vs = [.ref p, .int n] ∧ Pool H p ∧ 0 < n ∧ n < 1073741824 ∧ ∀ (r : Int) (H' : Hp), 0 ≤ r → r < n → Pool H' p → But p H H' → Q (.int r) H'
section
variable {P : Program} {w : World} {K : PySem.W.Frag} {mg : Str → Option Value} {base : Heap}
theorem ok__law_draw (T : Txt K mg) : FnOk P w K mg base CX0 1 T.a__law_draw T.d__law_draw ["_law_pool_here", "_law_many"] sp__law_draw := by
  have nd := sc__law_draw.nd
  refine T.F__law_draw.ok sc__law_draw (fun vs H Q E h => ?_) (fun cdv A outer s H vs Q E hr h => ?_)
  · obtain ⟨p, n, rfl, _⟩ := h; rfl
  · obtain ⟨p, n, rfl, P, hn, hn2, k⟩ := h
    have hu := hu_of hr
    refine ⟨_, (pss_cons (ps_if (pt_cmpR op_gt (pe_ix (ix_listK (K := K) rfl) (pv 0) (pe_int) (fun _ _ => rfl)) (pe_int) (nomark _)) (pss_cons (ps_set (i := 2) nd rfl (by first | exact Or.inl rfl | exact Or.inr rfl) (pe_op op_mod (pe_callTy call_int1 (by rfl) T.no_int (by decide +kernel) (pa_cons (pe_ix (ix_listK (K := K) rfl) (pv 0) (pe_int) (fun _ _ => rfl)) pa_nil)) (pv 1)))
      (pss_cons (ps_asg (pe_op op_fdiv (pe_ix (ix_listK (K := K) rfl) (pv 0) (pe_int) (fun _ _ => rfl)) (pv 1)) (pg_sub (pv 0) (pe_int) set_list))
      (pss_one (ps_ret (pv 2))))) pss_nil)
      (pss_cons (ps_asg (pe_op op_mod (pe_callTy call_int1 (by rfl) T.no_int (by decide +kernel) (pa_cons (pe_op op_add (pe_op op_mul (pe_ix (ix_listK (K := K) rfl) (pv 0) (pe_int) (fun _ _ => rfl)) (pe_int)) (pe_int)) pa_nil)) (pe_int)) (pg_sub (pv 0) (pe_int) set_list))
      (pss_one (ps_ret (pe_op op_mod (pe_callTy call_int1 (by rfl) T.no_int (by decide +kernel) (pa_cons (pe_op op_fdiv (pe_op op_mod (pe_callTy call_int1 (by rfl) T.no_int (by decide +kernel) (pa_cons (pe_op op_mul (pe_ix (ix_listK (K := K) rfl) (pv 0) (pe_int) (fun _ _ => rfl)) (pe_ix (ix_listK (K := K) rfl) (pv 0) (pe_int) (fun _ _ => rfl))) pa_nil)) (pe_int)) (pe_int)) pa_nil)) (pv 1)))))), ?_⟩
    obtain ⟨a, b, h, h0, h1, h2⟩ := P.ex
    tm_at "xst"
    refine q_ixL (SqL.of h) rfl ?_
    tm_at "xst"
    refine i_dec (fun h3 => ?_) (fun h3 => ?_)
    · tm_at "xst"
      refine q_ixL (SqL.of h) rfl ?_
      tm_at "xst"
      refine q_I hn ?_
      tm_at "xst"
      refine q_ixL (SqL.of h) rfl ?_
      tm_at "xst"
      refine q_I ⟨hn, hn2⟩ ?_
      tm_at "xst"
      refine q_setL h rfl ?_
      tm_at "xst"
      exact k _ _ (Int.emod_nonneg _ (by omega)) (Int.emod_lt_of_pos _ hn) ⟨a / n, b, upd_same, Int.ediv_nonneg h0 (by omega), h1, h2⟩ But.upd
    · tm_at "xst"
      refine q_ixL (SqL.of h) rfl ?_
      tm_at "xst"
      refine q_I (.inr ⟨by decide, by decide⟩) ?_
      tm_at "xst"
      refine q_I (by decide) ?_
      tm_at "xst"
      refine q_setL h rfl ?_
      have e0 := Int.emod_nonneg (b * 48271 + 11) (show (2147483647 : Int) ≠ 0 by decide)
      have e1 := Int.emod_lt_of_pos (b * 48271 + 11) (show (0 : Int) < 2147483647 by decide)
      generalize (b * 48271 + 11) % 2147483647 = c at e0 e1 ⊢
      have h' : (upd H p (.lst [.int a, .int c])) p = some (.lst [.int a, .int c]) := upd_same
      tm_at "xst"
      refine q_ixL (SqL.of h') rfl ?_
      tm_at "xst"
      refine q_ixL (SqL.of h') rfl ?_
      tm_at "xst"
      refine q_I (.inl ⟨by omega, by omega⟩) ?_
      tm_at "xst"
      refine q_I (by decide) ?_
      tm_at "xst"
      refine q_I ⟨by decide, by decide⟩ ?_
      tm_at "xst"
      refine q_I hn ?_
      exact k _ _ (Int.emod_nonneg _ (by omega)) (Int.emod_lt_of_pos _ hn) ⟨a, c, h', h0, e0, e1⟩ But.upd
end
end Toy
namespace Toy
open PySem PySem.Spec PyProof.Rows L2 Kx
def sp__law_pick (K : PySem.W.Frag) : Sp := fun vs H Q _ => ∃ (p : Addr) (row : V), vs = [.ref p, row] ∧ Pool H p ∧
  ((∃ s, row = .str s ∧ 0 < s.length ∧ s.length ≤ 1000 ∧ ∀ c H', c ∈ s.cps.toList → Pool H' p → But p H H' → Q (sgn c) H') ∨
   (∃ q xs, row = .ref q ∧ q ≠ p ∧ SqL K H q xs ∧ 0 < xs.length ∧ xs.length ≤ 1000 ∧ ∀ v H', v ∈ xs → Pool H' p → But p H H' → Q v H') ∨
   (∃ q xs, row = .ref q ∧ q ≠ p ∧ SqT K H q xs ∧ 0 < xs.length ∧ xs.length ≤ 1000 ∧ ∀ v H', v ∈ xs → Pool H' p → But p H H' → Q v H'))
section
variable {P : Program} {w : World} {K : PySem.W.Frag} {mg : Str → Option Value} {base : Heap}
theorem ok__law_pick (T : Txt K mg) : FnOk P w K mg base CX0 2 T.a__law_pick T.d__law_pick ["_law_pool_here", "_law_row"] (sp__law_pick K) := by
  have nd := sc__law_pick.nd
  refine T.F__law_pick.ok sc__law_pick (fun vs H Q E h => ?_) (fun cdv A outer s H vs Q E hr h => ?_)
  · obtain ⟨p, n, rfl, _⟩ := h; rfl
  · obtain ⟨p, row, rfl, P, h⟩ := h
    have hu := hu_of hr
    refine ⟨_, (pss_one (ps_ret (pe_ix (ix_seqK (K := K) rfl) (pv 1) (pe_call (ok__law_draw T) (hr.mono (by decide)) rfl T.g__law_draw T.k__law_draw T.b__law_draw .nil pass0 (pa_cons (pv 0) (pa_cons (pe_callB (call_lenK (K := K) rfl) (by rfl) T.no_len (by decide +kernel) (pa_cons (pv 1) pa_nil)) pa_nil))) (fun _ _ => rfl)))), ?_⟩
    tm_at "xst"
    rcases h with ⟨s, rfl, h1, h2, k⟩ | ⟨q, xs, rfl, hqp, hs, h1, h2, k⟩ | ⟨q, xs, rfl, hqp, hs, h1, h2, k⟩
    · have hz : s.length ≤ sizeLine := Nat.le_trans h2 (by decide)
      refine q_lenS hz ?_
      tm_at "xst"
      refine ⟨p, _, rfl, P, by omega, by omega, fun r H' r0 r1 P' B => ?_⟩
      have hr : r.toNat < s.cps.toList.length := by rw [tl_len]; omega
      exact .inr (.inr (q_ixS hz (atI_of r0 (List.getElem?_eq_getElem hr)) (k _ H' (List.getElem_mem hr) P' B)))
    · refine q_lenL hs ?_
      tm_at "xst"
      refine ⟨p, _, rfl, P, by omega, by omega, fun r H' r0 r1 P' B => ?_⟩
      have hr : r.toNat < xs.length := by omega
      exact .inl (q_ixL (B.seq hqp hs) (atI_of r0 (List.getElem?_eq_getElem hr)) (k _ H' (List.getElem_mem hr) P' B))
    · refine q_lenT hs ?_
      tm_at "xst"
      refine ⟨p, _, rfl, P, by omega, by omega, fun r H' r0 r1 P' B => ?_⟩
      have hr : r.toNat < xs.length := by omega
      exact .inr (.inl (q_ixT (B.seqT hqp hs) (atI_of r0 (List.getElem?_eq_getElem hr)) (k _ H' (List.getElem_mem hr) P' B)))
end
end Toy
namespace Toy
open PySem PySem.Spec PyProof.Rows L2 Kx
def sp__law_names : Sp := fun vs H Q _ => ∃ (p : Addr) (n : Nat), vs = [.ref p, .int n] ∧ Pool H p ∧ 1 ≤ n ∧ n ≤ 5 ∧
  ∀ (l : Addr) (ns : List Str) (H' : Hp), H l = none → But p H H' → Pool H' p → H' l = some (.lst (ns.map V.str)) → ns.length = n → ns.Nodup → (∀ s ∈ ns, isNameS s = true ∧ oddN s) → Q (.ref l) H'
def endsL : List (Str × Str) := [("", ""), ("", "q"), ("ab", ""), ("abcdefg", ""), ("", "abcdefg")]
theorem ends_ok : ∀ e ∈ endsL, (e.1.cps.toList.all isLet = true ∧ e.2.cps.toList.all isLet = true) ∧ e.1.length + e.2.length ≤ 7 ∧ e.1.length + e.2.length + 1 ≠ 5 ∧ (e.1.length + e.2.length + 1 ≠ 3 ∨ e.1.cps.toList.head? = some 97) := by decide +kernel
def nmS (h t : Str) (o r : Int) (i : Nat) : Str := h ++ (⟨#[97 + ((o + (1 + 2 * r) * (i : Nat)) % 26).toNat]⟩ : Str) ++ t
theorem nm_tl (h t : Str) (o r : Int) (i : Nat) : (nmS h t o r i).cps.toList = h.cps.toList ++ [97 + ((o + (1 + 2 * r) * (i : Nat)) % 26).toNat] ++ t.cps.toList := by
  unfold nmS
  rw [tl_app, tl_app]
theorem nm_let (o r : Int) (i : Nat) : isLet (97 + ((o + (1 + 2 * r) * (i : Nat)) % 26).toNat) = true := by
  have h1 := Int.emod_nonneg (o + (1 + 2 * r) * (i : Nat)) (show (26 : Int) ≠ 0 by decide)
  have h2 := Int.emod_lt_of_pos (o + (1 + 2 * r) * (i : Nat)) (show (0 : Int) < 26 by decide)
  generalize (o + (1 + 2 * r) * (i : Nat)) % 26 = z at h1 h2
  have h3 : 97 ≤ 97 + z.toNat := by omega
  have h4 : 97 + z.toNat ≤ 122 := by omega
  show (decide _ && decide _) = true
  rw [decide_eq_true h3, decide_eq_true h4]
  rfl
theorem nm_ok {h t : Str} (e : (h, t) ∈ endsL) (o r : Int) (i : Nat) : isNameS (nmS h t o r i) = true ∧ oddN (nmS h t o r i) := by
  obtain ⟨⟨e1, e2⟩, e3, e4, e5⟩ := ends_ok _ e
  have hl : (nmS h t o r i).length = h.length + t.length + 1 := by
    rw [← tl_len, nm_tl, List.length_append, List.length_append, tl_len, tl_len]
    show h.length + 1 + t.length = _
    omega
  refine ⟨?_, by rw [hl]; exact e4, fun z => ?_⟩
  rotate_left
  · rcases e5 with e5 | e5
    · rw [z] at hl
      exact e5 hl.symm
    · have h1 := nm_tl h t o r i
      rw [z] at h1
      have h2 := congrArg List.head? h1
      have e5 : h.cps.toList.head? = some 97 := e5
      rw [List.append_assoc, List.head?_append, e5] at h2
      have h3 : (("cut" : Str)).cps.toList.head? = some 99 := by decide +kernel
      rw [h3] at h2
      cases h2
  unfold isNameS
  rw [hl, decide_eq_true (show 1 ≤ h.length + t.length + 1 by omega), decide_eq_true (show h.length + t.length + 1 ≤ 8 by have e3 : h.length + t.length ≤ 7 := e3; omega), nm_tl, List.all_append, List.all_append]
  show (true && true && ((h.cps.toList.all isLet && [97 + ((o + (1 + 2 * r) * (i : Nat)) % 26).toNat].all isLet) && t.cps.toList.all isLet)) = true
  have e1' : h.cps.toList.all isLet = true := e1
  have e2' : t.cps.toList.all isLet = true := e2
  rw [e1', e2', List.all_cons, nm_let]
  rfl
theorem nm_one {h t : Str} {o r : Int} (r0 : 0 ≤ r) (r6 : r < 6) {i j : Nat} (hi : i < 5) (hj : j < 5) (e : nmS h t o r i = nmS h t o r j) : i = j := by
  have e1 : (nmS h t o r i).cps.toList = (nmS h t o r j).cps.toList := by rw [e]
  rw [nm_tl, nm_tl] at e1
  have e2 := List.append_cancel_left (List.append_cancel_right e1)
  have e3 : ((o + (1 + 2 * r) * (i : Nat)) % 26).toNat = ((o + (1 + 2 * r) * (j : Nat)) % 26).toNat := by
    injection e2 with e2 _
    omega
  have : r = 0 ∨ r = 1 ∨ r = 2 ∨ r = 3 ∨ r = 4 ∨ r = 5 := by omega
  rcases this with rfl | rfl | rfl | rfl | rfl | rfl <;> omega
theorem signs_at : ∀ j : Fin 26, atI (("abcdefghijklmnopqrstuvwxyz" : Str)).cps.toList ((j.1 : Nat) : Int) = some (97 + j.1) := by decide +kernel
section
variable {P : Program} {w : World} {K : PySem.W.Frag} {mg : Str → Option Value} {base : Heap}
theorem ok__law_names (T : Txt K mg) : FnOk P w K mg base CX0 3 T.a__law_names T.d__law_names ["_law_pool_here", "_law_count"] sp__law_names := by
  have nd := sc__law_names.nd
  refine T.F__law_names.ok sc__law_names (fun vs H Q E h => ?_) (fun cdv A outer s H vs Q E hr h => ?_)
  · obtain ⟨p, n, rfl, _⟩ := h; rfl
  · obtain ⟨p, n, rfl, P0, h1, h5, k⟩ := h
    have hu := hu_of hr
    refine ⟨_, (pss_cons (ps_set (i := 2) nd rfl (by first | exact Or.inl rfl | exact Or.inr rfl) (pe_str))
      (pss_cons (ps_asg (pe_tup (pa_cons (pe_call (ok__law_draw T) (hr.mono (by decide)) rfl T.g__law_draw T.k__law_draw T.b__law_draw .nil pass0 (pa_cons (pv 0) (pa_cons (pe_int) pa_nil))) (pa_cons (pe_op op_add (pe_int) (pe_op op_mul (pe_int) (pe_call (ok__law_draw T) (hr.mono (by decide)) rfl T.g__law_draw T.k__law_draw T.b__law_draw .nil pass0 (pa_cons (pv 0) (pa_cons (pe_int) pa_nil))))) pa_nil))) (pg_tupK (K := K) rfl 2 rfl (pgs_cons (pg_name (i := 3) nd rfl (by first | exact Or.inl rfl | exact Or.inr rfl)) (pgs_cons (pg_name (i := 4) nd rfl (by first | exact Or.inl rfl | exact Or.inr rfl)) pgs_nil))))
      (pss_cons (ps_set (i := 5) nd rfl (by first | exact Or.inl rfl | exact Or.inr rfl) (pe_lst (pa_cons (pe_tup (pa_cons (pe_str) (pa_cons (pe_str) pa_nil))) (pa_cons (pe_tup (pa_cons (pe_str) (pa_cons (pe_str) pa_nil))) (pa_cons (pe_tup (pa_cons (pe_str) (pa_cons (pe_str) pa_nil))) (pa_cons (pe_tup (pa_cons (pe_str) (pa_cons (pe_str) pa_nil))) (pa_cons (pe_tup (pa_cons (pe_str) (pa_cons (pe_str) pa_nil))) pa_nil)))))))
      (pss_cons (ps_asg (pe_call (ok__law_pick T) (hr.mono (by decide)) rfl T.g__law_pick T.k__law_pick T.b__law_pick .nil pass0 (pa_cons (pv 0) (pa_cons (pv 5) pa_nil))) (pg_tupK (K := K) rfl 2 rfl (pgs_cons (pg_name (i := 6) nd rfl (by first | exact Or.inl rfl | exact Or.inr rfl)) (pgs_cons (pg_name (i := 7) nd rfl (by first | exact Or.inl rfl | exact Or.inr rfl)) pgs_nil))))
      (pss_one (ps_ret (pe_lc (own := [("_law_k", 8)]) rfl nd (pi_range1 (by rfl) T.no_range (pa_cons (pv 1) pa_nil)) (blkOk_by (N := ["_law_pool_here", "_law_count", "_law_signs", "_law_origin", "_law_step", "_law_ends", "_law_head", "_law_tail", "_law_k"]) (sc := defScope s__law_names) (by decide +kernel)) (fun _ _ _ _ _ => (pg_name (i := 8) nd rfl (by first | exact Or.inl rfl | exact Or.inr rfl))) (fun _ _ _ _ _ => pts_nil) (fun _ _ _ _ _ => (pe_op op_add_str (pe_op op_add_str (pv 6) (pe_ix ix_str (pv 2) (pe_op op_mod (pe_callTy call_int1 (by rfl) T.no_int (by decide +kernel) (pa_cons (pe_op op_add (pv 3) (pe_op op_mul (pv 4) (pv 8))) pa_nil)) (pe_int)) (fun _ _ => rfl))) (pv 7)))))))))), ?_⟩
    tm_at "xst"
    refine ⟨p, 26, rfl, P0, by decide, by decide, fun o H1 o0 o1 P1 b1 => ?_⟩
    tm_at "xst"
    refine ⟨p, 6, rfl, P1, by decide, by decide, fun r H2 r0 r1 P2 b2 => ?_⟩
    refine q_I (.inl ⟨by omega, by omega⟩) ?_
    tm_at "xst"
    rename_i q0 hq0
    refine q_gTup (SqT.of upd_same) rfl ?_
    tm_at "xst"
    rename_i q1 hq1 q2 hq2 q3 hq3 q4 hq4 q5 hq5 q6 hq6
    have hends : ∀ v ∈ [V.ref q1, V.ref q2, V.ref q3, V.ref q4, V.ref q5], ∃ (a : Addr) (hd tl : Str), v = .ref a ∧ (upd (upd (upd (upd (upd (upd (upd H2 q0 (.tup [.int o, .int (1 + 2 * r)])) q1 (.tup [.str "", .str ""])) q2 (.tup [.str "", .str "q"])) q3 (.tup [.str "ab", .str ""])) q4 (.tup [.str "abcdefg", .str ""])) q5 (.tup [.str "", .str "abcdefg"])) q6 (.lst [.ref q1, .ref q2, .ref q3, .ref q4, .ref q5])) a = some (.tup [.str hd, .str tl]) ∧ (hd, tl) ∈ endsL := by
      intro v hv
      simp only [List.mem_cons, List.not_mem_nil, or_false] at hv
      rcases hv with rfl | rfl | rfl | rfl | rfl
      · exact ⟨q1, _, _, rfl, by tm_at "xlook", by decide +kernel⟩
      · exact ⟨q2, _, _, rfl, by tm_at "xlook", by decide +kernel⟩
      · exact ⟨q3, _, _, rfl, by tm_at "xlook", by decide +kernel⟩
      · exact ⟨q4, _, _, rfl, by tm_at "xlook", by decide +kernel⟩
      · exact ⟨q5, _, _, rfl, by tm_at "xlook", by decide +kernel⟩
    have eS : Same H2 (upd (upd (upd (upd (upd (upd (upd H2 q0 (.tup [.int o, .int (1 + 2 * r)])) q1 (.tup [.str "", .str ""])) q2 (.tup [.str "", .str "q"])) q3 (.tup [.str "ab", .str ""])) q4 (.tup [.str "abcdefg", .str ""])) q5 (.tup [.str "", .str "abcdefg"])) q6 (.lst [.ref q1, .ref q2, .ref q3, .ref q4, .ref q5])) := by tm_at "xsame"
    have hL6 : (upd (upd (upd (upd (upd (upd (upd H2 q0 (.tup [.int o, .int (1 + 2 * r)])) q1 (.tup [.str "", .str ""])) q2 (.tup [.str "", .str "q"])) q3 (.tup [.str "ab", .str ""])) q4 (.tup [.str "abcdefg", .str ""])) q5 (.tup [.str "", .str "abcdefg"])) q6 (.lst [.ref q1, .ref q2, .ref q3, .ref q4, .ref q5])) q6 = some (.lst [.ref q1, .ref q2, .ref q3, .ref q4, .ref q5]) := upd_same
    have h60 : H2 q6 = none := by
      refine L2.Same.free ?_ hq6
      tm_at "xsame"
    generalize (upd (upd (upd (upd (upd (upd (upd H2 q0 (.tup [.int o, .int (1 + 2 * r)])) q1 (.tup [.str "", .str ""])) q2 (.tup [.str "", .str "q"])) q3 (.tup [.str "ab", .str ""])) q4 (.tup [.str "abcdefg", .str ""])) q5 (.tup [.str "", .str "abcdefg"])) q6 (.lst [.ref q1, .ref q2, .ref q3, .ref q4, .ref q5])) = H3 at eS hends hL6 ⊢
    have P3 : Pool H3 p := P2.same eS
    refine ⟨p, .ref q6, rfl, P3, .inr (.inl ⟨q6, _, rfl, ?_, SqL.of hL6, Nat.le_of_ble_eq_true rfl, Nat.le_of_ble_eq_true rfl, fun v H4 hv P4 b4 => ?_⟩)⟩
    · rintro rfl
      obtain ⟨z, hz⟩ := P2.there
      rw [hz] at h60
      cases h60
    obtain ⟨a, hd, tl, rfl, ha, he⟩ := hends v hv
    have ha4 : H4 a = some (.tup [.str hd, .str tl]) := But.keep P3 b4 ha (fun _ z => nomatch z)
    refine q_gTup (SqT.of ha4) rfl ?_
    tm_at "xst"
    refine ⟨_, rfl, by omega, by omega, fun D hD => ?_⟩
    have D0 : H D = none := by
      have e1 : H2 D = none := eS.free (But.free b4 P4 hD)
      exact But.free b1 P1 (But.free b2 P2 e1)
    refine lc_it (n := ((n : Nat) : Int).toNat) walk_range (fun i H' => H' = upd H4 D (.lst (((List.range i).map (nmS hd tl o r)).map V.str))) rfl (fun _ _ _ _ => trivial) ?_ ?_
    · rintro i x H5 H6 hi rfl y
      obtain ⟨rfl, rfl⟩ := y
      have hi5 : i < 5 := by omega
      refine ⟨rfl, ?_⟩
      tm_at "xst"
      refine q_I (.inr ⟨by omega, by omega⟩) ?_
      tm_at "xst"
      refine q_I (by decide) ?_
      have z0 := Int.emod_nonneg (o + (1 + 2 * r) * (0 + (i : Nat))) (show (26 : Int) ≠ 0 by decide)
      have z1 := Int.emod_lt_of_pos (o + (1 + 2 * r) * (0 + (i : Nat))) (show (0 : Int) < 26 by decide)
      have ez : (o + (1 + 2 * r) * (0 + (i : Nat))) % 26 = (((o + (1 + 2 * r) * (i : Nat)) % 26).toNat : Nat) := by
        rw [Int.zero_add] at z0 ⊢
        omega
      have zl : ((o + (1 + 2 * r) * (i : Nat)) % 26).toNat < 26 := by
        rw [Int.zero_add] at z0 z1
        omega
      obtain ⟨⟨_, hd2⟩, _⟩ := ends_ok _ he
      have hlen : hd.length + tl.length ≤ 7 := (ends_ok _ he).2.1
      rw [ez]
      refine q_ixS (by decide +kernel) (signs_at ⟨_, zl⟩) ?_
      have l1 : (⟨#[97 + ((o + (1 + 2 * r) * (i : Nat)) % 26).toNat]⟩ : Str).length = 1 := rfl
      refine ⟨_, _, rfl, rfl, by rw [l1]; exact Nat.le_trans (show hd.length + 1 ≤ 8 by omega) (by decide), ?_⟩
      tm_at "xst"
      refine ⟨_, _, rfl, rfl, by rw [len_app, l1]; exact Nat.le_trans (show hd.length + 1 + tl.length ≤ 8 by omega) (by decide), ?_⟩
      refine ⟨_, upd_same, ?_, ?_⟩
      · rw [List.length_map, List.length_map, List.length_range]
        exact Nat.lt_of_lt_of_le hi5 (by decide)
      · rw [upd_upd, List.range_succ, List.map_append, List.map_append]
        rfl
    rintro H5 rfl
    have en : ((n : Nat) : Int).toNat = n := by omega
    rw [en]
    refine k D _ _ D0 ?_ (Pool.but P4 hD) upd_same ?_ ?_ ?_
    · exact ((b1.trans b2).trans ((But.of_same eS).trans b4)).trans (But.new hD)
    · rw [List.length_map, List.length_range]
    · unfold List.Nodup
      rw [List.pairwise_map]
      refine List.Pairwise.imp_of_mem ?_ List.pairwise_lt_range
      intro a b ha hb hab e
      have h1 := List.mem_range.mp ha
      have h2 := List.mem_range.mp hb
      have := nm_one r0 r1 (by omega) (by omega) e
      omega
    · intro s hs
      obtain ⟨i, _, rfl⟩ := List.mem_map.mp hs
      exact nm_ok he o r i
end
end Toy
namespace Toy
open PySem PySem.Spec PyProof.Rows L2 Kx
def sp__law_model : Sp := fun vs H Q _ => ∃ (p : Addr) (n : Nat), vs = [.ref p, .int n] ∧ Pool H p ∧ 1 ≤ n ∧ n ≤ 4 ∧
  ∀ (m tl ll mm : Addr) (M : ModelD) (known : List Str) (H' : Hp), H m = none → But p H H' → Pool H' p → ModelAt H' m M tl ll mm → Good M → M.links.length ≤ 100 → known.Perm M.names → sortedS known = true → M.links = ascL known M.links → (∀ s ∈ M.names, oddN s) → Q (.ref m) H'
section
variable {P : Program} {w : World} {K : PySem.W.Frag} {mg : Str → Option Value} {base : Heap}
theorem ok__law_model (T : Txt K mg) : FnOk P w K mg base CX0 4 T.a__law_model T.d__law_model ["_law_pool_here", "_law_most_so"] sp__law_model := by
  have nd := sc__law_model.nd
  refine T.F__law_model.ok sc__law_model (fun vs H Q E h => ?_) (fun cdv A outer s H vs Q E hr h => ?_)
  · obtain ⟨p, n, rfl, _⟩ := h; rfl
  · obtain ⟨p, n, rfl, P0, h1, h4, k⟩ := h
    have hu := hu_of hr
    refine ⟨_, (pss_cons (ps_set (i := 2) nd rfl (by first | exact Or.inl rfl | exact Or.inr rfl) (pe_call (ok__law_names T) (hr.mono (by decide)) rfl T.g__law_names T.k__law_names T.b__law_names .nil pass0 (pa_cons (pv 0) (pa_cons (pe_op op_add (pe_int) (pe_call (ok__law_draw T) (hr.mono (by decide)) rfl T.g__law_draw T.k__law_draw T.b__law_draw .nil pass0 (pa_cons (pv 0) (pa_cons (pv 1) pa_nil)))) pa_nil))))
      (pss_cons (ps_setLc (i := 3) (own := [("_law_name", 7)]) rfl nd rfl rfl (sw_true rfl rfl rfl (by decide +kernel)) (pi_listK (K := K) rfl (pv 2)) (blkOk_by (N := ["_law_pool_here", "_law_most_so", "_law_names_here", "_law_tills", "_law_known", "_law_pairs", "_law_at", "_law_name", "_law_some", "_law_memo", "_law_model_here"]) (sc := defScope s__law_model) (by decide +kernel)) (fun _ _ _ _ _ => (pg_name (i := 7) nd rfl (by first | exact Or.inl rfl | exact Or.inr rfl))) (fun _ _ _ _ _ => pts_nil) (fun _ _ _ _ _ => (pe_tup (pa_cons (pv 7) (pa_cons (pe_call (ok__law_draw T) (hr.mono (by decide)) rfl T.g__law_draw T.k__law_draw T.b__law_draw .nil pass0 (pa_cons (pv 0) (pa_cons (pe_int) pa_nil))) (pa_cons (pe_cmpR op_gt (pe_call (ok__law_draw T) (hr.mono (by decide)) rfl T.g__law_draw T.k__law_draw T.b__law_draw .nil pass0 (pa_cons (pv 0) (pa_cons (pe_int) pa_nil))) (pe_int) (nomark _)) pa_nil))))))
      (pss_cons (ps_set (i := 4) nd rfl (by first | exact Or.inl rfl | exact Or.inr rfl) (pe_callB (cr_sortedSK (K := K) rfl) (by rfl) T.no_sorted (by decide +kernel) (pa_cons (pe_lc (own := [("_law_name", 7)]) rfl nd (pi_listK (K := K) rfl (pv 2)) (blkOk_by (N := ["_law_pool_here", "_law_most_so", "_law_names_here", "_law_tills", "_law_known", "_law_pairs", "_law_at", "_law_name", "_law_some", "_law_memo", "_law_model_here"]) (sc := defScope s__law_model) (by decide +kernel)) (fun _ _ _ _ _ => (pg_name (i := 7) nd rfl (by first | exact Or.inl rfl | exact Or.inr rfl))) (fun _ _ _ _ _ => pts_nil) (fun _ _ _ _ _ => (pe_callTy SkE.call_str_str (by rfl) T.no_str (by decide +kernel) (pa_cons (pv 7) pa_nil)))) pa_nil)))
      (pss_cons (ps_set (i := 5) nd rfl (by first | exact Or.inl rfl | exact Or.inr rfl) (pe_lst pa_nil))
      (pss_cons (ps_for PassesOwn.never rfl (pi_range1 (by rfl) T.no_range (pa_cons (pe_callB (call_lenK (K := K) rfl) (by rfl) T.no_len (by decide +kernel) (pa_cons (pv 4) pa_nil)) pa_nil)) (pg_name (i := 6) nd rfl (by first | exact Or.inl rfl | exact Or.inr rfl)) (pss_one (ps_for PassesOwn.never rfl (pi_listK (K := K) rfl (pe_slice (sl_listK (K := K) rfl) (pv 4) (po_some (pe_op op_add (pv 6) (pe_int))) po_none)) (pg_name (i := 7) nd rfl (by first | exact Or.inl rfl | exact Or.inr rfl)) (pss_one (ps_if (pt_cmpR op_eq (pe_call (ok__law_draw T) (hr.mono (by decide)) rfl T.g__law_draw T.k__law_draw T.b__law_draw .nil pass0 (pa_cons (pv 0) (pa_cons (pe_int) pa_nil))) (pe_int) (nomark _)) (pss_one (ps_expr (pe_bm PySem.F.plainAttrs_list PySem.F.slot_list_append PySem.F.type_list_append mt_append (pv 5) (pa_cons (pe_tup (pa_cons (pe_ix (ix_listK (K := K) rfl) (pv 4) (pv 6) (fun _ _ => rfl)) (pa_cons (pv 7) pa_nil))) pa_nil)))) pss_nil)))))
      (pss_cons (ps_set (i := 8) nd rfl (by first | exact Or.inl rfl | exact Or.inr rfl) (pe_lst (pa_cons (pe_tup (pa_cons (pe_str) pa_nil)) (pa_cons (pe_tup (pa_cons (pe_str) pa_nil)) (pa_cons (pe_tup (pa_cons (pe_str) (pa_cons (pe_call (ok__law_draw T) (hr.mono (by decide)) rfl T.g__law_draw T.k__law_draw T.b__law_draw .nil pass0 (pa_cons (pv 0) (pa_cons (pe_int) pa_nil))) pa_nil))) (pa_cons (pe_tup (pa_cons (pe_str) (pa_cons (pe_call (ok__law_draw T) (hr.mono (by decide)) rfl T.g__law_draw T.k__law_draw T.b__law_draw .nil pass0 (pa_cons (pv 0) (pa_cons (pe_int) pa_nil))) pa_nil))) pa_nil))))))
      (pss_cons (ps_set (i := 9) nd rfl (by first | exact Or.inl rfl | exact Or.inr rfl) (pe_call (ok__law_pick T) (hr.mono (by decide)) rfl T.g__law_pick T.k__law_pick T.b__law_pick .nil pass0 (pa_cons (pv 0) (pa_cons (pv 8) pa_nil))))
      (pss_cons (ps_set (i := 10) nd rfl (by first | exact Or.inl rfl | exact Or.inr rfl) (pe_disp (pps_cons (pe_str) (pv 3) (pps_cons (pe_str) (pv 5) (pps_cons (pe_str) (pe_call (ok__law_draw T) (hr.mono (by decide)) rfl T.g__law_draw T.k__law_draw T.b__law_draw .nil pass0 (pa_cons (pv 0) (pa_cons (pe_int) pa_nil))) (pps_cons (pe_str) (pv 9) pps_nil)))) (by rfl) (by rfl) (List.cons_ne_nil _ _) (by decide)))
      (pss_cons (ps_asg (pe_tup (pa_cons (pe_call (ok__law_draw T) (hr.mono (by decide)) rfl T.g__law_draw T.k__law_draw T.b__law_draw .nil pass0 (pa_cons (pv 0) (pa_cons (pe_int) pa_nil))) (pa_cons (pe_cmpR op_eq (pe_call (ok__law_draw T) (hr.mono (by decide)) rfl T.g__law_draw T.k__law_draw T.b__law_draw .nil pass0 (pa_cons (pv 0) (pa_cons (pe_int) pa_nil))) (pe_int) (nomark _)) pa_nil))) (pg_tupK (K := K) rfl 2 rfl (pgs_cons (pg_sub (pv 10) (pe_str) (set_dict hu)) (pgs_cons (pg_sub (pv 10) (pe_str) (set_dict hu)) pgs_nil))))
      (pss_one (ps_ret (pv 10)))))))))))), ?_⟩
    tm_at "xst"
    refine ⟨p, n, rfl, P0, by omega, by omega, fun r H1 r0 r1 P1 b1 => ?_⟩
    tm_at "xst"
    refine ⟨p, (1 + r).toNat, by show [V.ref p, V.int (1 + r)] = [V.ref p, V.int (((1 + r).toNat : Nat) : Int)]; rw [Int.toNat_of_nonneg (by omega)], P1, by omega, by omega, fun l ns H2 hl0 b2 P2 hl hnl nd0 hns => ?_⟩
    have hn4 : ns.length ≤ 4 := by omega
    have hn1 : 1 ≤ ns.length := by omega
    have nlp : l ≠ p := fun z => by obtain ⟨o, ho⟩ := P1.there; rw [z, ho] at hl0; cases hl0
    clear hnl
    tm_at "xst"
    refine ⟨l, rfl, ⟨_, SqL.of hl⟩, fun D hD => ?_⟩
    have nDp : D ≠ p := fun z => by obtain ⟨o, ho⟩ := P2.there; rw [z, ho] at hD; cases hD
    refine lc_it (walk_list (K := K) (a := l) (xs := ns.map V.str)) (fun i H' => Pool H' p ∧ But p H2 H' ∧ ∃ ts : List TillD, LstD H' D (ts.map tillP) ∧ ts.map (·.name) = ns.take i ∧ ∀ t ∈ ts, 0 ≤ t.limit ∧ t.limit ≤ 9) ⟨P2.but hD, But.new hD, [], ⟨[], upd_same, .nil⟩, rfl, (fun _ h => nomatch h)⟩ (fun i H' _ e => SqL.of (e.2.1 l _ nlp hl)) ?_ ?_
    · rintro i x H3 H4 hi ⟨P3, b3, ts, hts, hnm, hlm⟩ ⟨rfl, hx⟩
      obtain ⟨s, hs, rfl⟩ := at_maps1 hx
      refine ⟨rfl, ?_⟩
      tm_at "xst"
      refine ⟨p, 4, rfl, P3, by decide, by decide, fun r1 H5 r10 r11 P5 b5 => ?_⟩
      tm_at "xst"
      refine ⟨p, 4, rfl, P5, by decide, by decide, fun r2 H6 r20 r21 P6 b6 => ?_⟩
      tm_at "xst"
      rename_i q hq
      have P7 := P6.but (o := .tup [.str s, .int r1, .bl (decide (0 < r2))]) hq
      have hts6 := (hts.but P3 nDp b5).but P5 nDp b6
      have hlen : ts.length = i := by
        have h := congrArg List.length hnm
        rw [List.length_map, List.length_take] at h
        rw [List.length_map] at hi
        omega
      obtain ⟨acc, ha1, ha2, ha3⟩ := hts6.push (v := .ref q) (d := tillP ⟨s, r1, decide (0 < r2)⟩) (Same.new (o := .tup [.str s, .int r1, .bl (decide (0 < r2))]) hq) (Td.tup upd_same (by tm_at "xtd")) (by rw [List.length_map, hlen]; rw [List.length_map] at hi; omega)
      refine ⟨acc, ha1, ha2, P7.upd nDp, But.mut ((b3.trans (b5.trans b6)).trans (But.new hq)) hD, ts ++ [⟨s, r1, decide (0 < r2)⟩], ?_, ?_, ?_⟩
      · rw [List.map_append]
        exact ha3
      · rw [List.map_append, hnm, take_snoc hs]
        rfl
      · intro t ht
        rcases List.mem_append.mp ht with ht | ht
        · exact hlm t ht
        · rw [List.mem_singleton.mp ht]
          exact ⟨r10, by show r1 ≤ 9; omega⟩
    rintro H3 ⟨P3, b3, ts, hts, hnm, hlm⟩
    rw [List.length_map, List.take_length] at hnm
    tm_at "xst"
    have hl3 := b3 l _ nlp hl
    refine ⟨l, rfl, ⟨_, SqL.of hl3⟩, fun D2 hD2 => ?_⟩
    refine lc_map walk_list (ns.map V.str) id rfl (by rw [List.length_map]; exact Nat.lt_of_le_of_lt hn4 (by decide)) (fun o => SqL.of (at_new hD2 hl3)) (fun i H x H' y => y) (fun i x o Q' hx q => ?_) ?_
    · obtain ⟨s, _, rfl⟩ := at_maps1 hx
      tm_at "xst"
      exact ⟨s, rfl, q⟩
    rw [List.map_id]
    tm_at "xst"
    refine q_sortedS (SqL.of upd_same) (by omega) fun known kn hp hs hkn => ?_
    have e4 : Same H3 (upd (upd H3 D2 (.lst (ns.map V.str))) kn (.lst (known.map V.str))) := (Same.new hD2).trans (Same.new hkn)
    have hk4 : (upd (upd H3 D2 (.lst (ns.map V.str))) kn (.lst (known.map V.str))) kn = some (.lst (known.map V.str)) := upd_same
    have hk0 : H3 kn = none := (Same.new hD2).free hkn
    generalize upd (upd H3 D2 (.lst (ns.map V.str))) kn (.lst (known.map V.str)) = H4 at e4 hk4 ⊢
    have P4 := P3.same e4
    have b4 : But p H2 H4 := b3.trans (.of_same e4)
    have hts4 := hts.same e4
    have nkp : kn ≠ p := fun z => by obtain ⟨o, ho⟩ := P3.there; rw [z, ho] at hk0; cases hk0
    tm_at "xst"
    rename_i f hf
    have nfp : f ≠ p := fun z => by obtain ⟨o, ho⟩ := P4.there; rw [z, ho] at hf; cases hf
    have nkf : kn ≠ f := fun z => by rw [z, hf] at hk4; cases hk4
    have hknl : known.length = ns.length := hp.length_eq
    have ndk : known.Nodup := hp.nodup_iff.mpr nd0
    refine q_lenL (SqL.of (at_new hf hk4)) ?_
    rw [List.length_map]
    tm_at "xst"
    refine ⟨_, rfl, by omega, by omega, for_range (fun i σ' H' => ∃ v1 v2, σ' = [some (.ref p), some (.int n), some (.ref l), some (.ref D), some (.ref kn), some (.ref f), v1, v2, none, none, none] ∧ Pool H' p ∧ But p H4 H' ∧ ∃ ks : List (Str × Str), LstD H' f (ks.map linkP) ∧ ks.Sublist (pairsL (known.take i) known) ∧ ∀ k ∈ ks, k.1 ∈ known ∧ k.2 ∈ known ∧ k.1.cps.toList < k.2.cps.toList) ⟨none, none, rfl, P4.but hf, But.new hf, [], ⟨[], upd_same, .nil⟩, List.nil_sublist _, fun _ h => nomatch h⟩ ?_ ?_⟩
    · rintro i σ' H5 hi ⟨v1, v2, rfl, P5, b5, ks, hks, hsub, hlt⟩
      have hi : i < known.length := by omega
      have hk5 := b5 kn _ nkp hk4
      obtain ⟨a, ha⟩ : ∃ a, known[i]? = some a := ⟨_, List.getElem?_eq_getElem hi⟩
      tm_at "xst"
      have hat : atI (known.map V.str) (0 + (i : Nat)) = some (.str a) := atI_of (by omega) (by rw [show (0 + (i : Nat) : Int).toNat = i by omega, List.getElem?_map, ha]; rfl)
      refine q_slL (SqL.of hk5) fun sl hsl => ?_
      have ecut : cutV (known.map V.str) (some (0 + (i : Nat) + 1)) none = (known.drop (i + 1)).map V.str := by
        have e : (0 + (i : Nat) + 1 : Int) = ((i + 1 : Nat) : Int) := by omega
        rw [e, cutV_from, List.map_drop]
      rw [ecut]
      have nsp : sl ≠ p := fun z => by obtain ⟨o, ho⟩ := P5.there; rw [z, ho] at hsl; cases hsl
      obtain ⟨xf, hxf, _⟩ := id hks
      have nsf : sl ≠ f := fun z => by rw [z, hxf] at hsl; cases hsl
      have ess : Same H5 (upd H5 sl (.lst ((known.drop (i + 1)).map V.str))) := Same.new hsl
      refine ⟨sl, rfl, ⟨_, SqL.of upd_same⟩, for_list (K := K) (a := sl) (xs := (known.drop (i + 1)).map V.str) (fun j σ' H' => ∃ v2, σ' = [some (.ref p), some (.int n), some (.ref l), some (.ref D), some (.ref kn), some (.ref f), some (.int (0 + (i : Nat))), v2, none, none, none] ∧ Pool H' p ∧ But p H4 H' ∧ H' sl = some (.lst ((known.drop (i + 1)).map V.str)) ∧ ∃ ks : List (Str × Str), LstD H' f (ks.map linkP) ∧ ks.Sublist (pairsL (known.take i) known ++ (known.take (i + 1 + j)).map fun b => (a, b)) ∧ ∀ k ∈ ks, k.1 ∈ known ∧ k.2 ∈ known ∧ k.1.cps.toList < k.2.cps.toList) ⟨v2, rfl, P5.same ess, b5.trans (.of_same ess), upd_same, ks, hks.same ess, hsub.trans (List.sublist_append_left _ _), hlt⟩ (fun _ _ _ _ h => SqL.of (by obtain ⟨_, _, _, _, h, _⟩ := h; exact h)) ?_ ?_⟩
      · rintro j x σ' H6 hx ⟨v2, rfl, P6, b6, hs6, ks, hks, hsub, hlt⟩
        obtain ⟨b, hb, rfl⟩ := at_maps1 hx
        rw [List.getElem?_drop] at hb
        tm_at "xst"
        refine ⟨p, 3, rfl, P6, by decide, by decide, fun rr H7 rr0 rr1 P7 b7 => ?_⟩
        have hks7 := hks.but P6 nfp b7
        have hs7 := b7 sl _ nsp hs6
        have hk7 := b7 kn _ nkp (b6 kn _ nkp hk4)
        have et : known.take (i + 1 + (j + 1)) = known.take (i + 1 + j) ++ [b] := take_snoc (i := i + 1 + j) hb
        tm_at "xst"
        refine i_dec (fun hr0 => ?_) (fun hr0 => ?_)
        · tm_at "xst"
          obtain ⟨xs7, hx7, _⟩ := id hks7
          refine ⟨.inl ⟨rfl, _, SqL.of hx7⟩, ?_⟩
          tm_at "xst"
          refine q_ixL (SqL.of hk7) hat ?_
          tm_at "xst"
          rename_i tp htp
          have hl20 : ks.length ≤ 100 := by
            have h1 := hsub.length_le
            rw [List.length_append, prs_len, List.length_map, List.length_take, List.length_take] at h1
            have h2 : min i known.length * known.length ≤ 4 * 4 := Nat.mul_le_mul (by omega) (by omega)
            omega
          refine q_app (d := linkP (a, b)) (hks7.same (Same.new htp)) (Td.tup upd_same (by tm_at "xtd")) (by rw [List.length_map]; omega) fun H8 f8 t8 d8 => ?_
          refine ⟨_, rfl, (P7.but htp).step nfp f8, But.step ((b6.trans b7).trans (But.new htp)) hf f8, f8 sl _ nsf (at_new htp hs7), ks ++ [(a, b)], by rw [List.map_append]; exact d8, ?_, ?_⟩
          · rw [et, List.map_append, ← List.append_assoc]
            exact hsub.append (List.Sublist.refl _)
          · intro k hk
            rcases List.mem_append.mp hk with hk | hk
            · exact hlt k hk
            · rw [List.mem_singleton.mp hk]
              exact ⟨List.mem_of_getElem? ha, List.mem_of_getElem? hb, sorted_lt hs ndk (by omega) ha hb⟩
        · tm_at "xst"
          refine ⟨_, rfl, P7, b6.trans b7, hs7, ks, hks7, ?_, hlt⟩
          rw [et, List.map_append, ← List.append_assoc]
          exact hsub.trans (List.sublist_append_left _ _)
      rintro σ' H6 ⟨v2, rfl, P6, b6, hs6, ks, hks, hsub, hlt⟩
      refine ⟨_, _, rfl, P6, b6, ks, hks, ?_, hlt⟩
      rw [pairs_take ha]
      have e : known.take (i + 1 + ((known.drop (i + 1)).map V.str).length) = known := List.take_of_length_le (by rw [List.length_map, List.length_drop]; omega)
      rw [e] at hsub
      exact hsub
    rintro σ' H5 ⟨v1, v2, rfl, P5, b5, ks, hks, hsub, hlt⟩
    have ek : known.take (known.length : Int).toNat = known := by rw [Int.toNat_natCast, List.take_length]
    rw [ek] at hsub
    tm_at "xst"
    rename_i t1 ht1 t2 ht2
    have e5 : Same H5 (upd (upd H5 t1 (.tup [.str "nothing"])) t2 (.tup [.str "nothing"])) := (Same.new ht1).trans (Same.new ht2)
    refine ⟨p, 3, rfl, P5.same e5, by decide, by decide, fun m1 H6 m10 m11 P6 b6 => ?_⟩
    tm_at "xst"
    rename_i t3 ht3
    have e6 : Same H6 (upd H6 t3 (.tup [.str "times", .int m1])) := Same.new ht3
    refine ⟨p, 4, rfl, P6.same e6, by decide, by decide, fun m2 H7 m20 m21 P7 b7 => ?_⟩
    tm_at "xst"
    rename_i t4 ht4 sm hsm
    have e8 : Same H7 (upd (upd H7 t4 (.tup [.str "sum", .int m2])) sm (.lst [.ref t1, .ref t2, .ref t3, .ref t4])) := (Same.new ht4).trans (Same.new hsm)
    have k7 : TupKeep (upd H6 t3 (.tup [.str "times", .int m1])) (upd (upd H7 t4 (.tup [.str "sum", .int m2])) sm (.lst [.ref t1, .ref t2, .ref t3, .ref t4])) := (TupKeep.but (P6.same e6) b7).trans (.same e8)
    have k5 : TupKeep (upd (upd H5 t1 (.tup [.str "nothing"])) t2 (.tup [.str "nothing"])) (upd (upd H7 t4 (.tup [.str "sum", .int m2])) sm (.lst [.ref t1, .ref t2, .ref t3, .ref t4])) := (TupKeep.but (P5.same e5) b6).trans ((TupKeep.same e6).trans k7)
    have hmem : ∀ v ∈ [V.ref t1, V.ref t2, V.ref t3, V.ref t4], ∃ (a : Addr) (md : MemD), v = .ref a ∧ Td (upd (upd H7 t4 (.tup [.str "sum", .int m2])) sm (.lst [.ref t1, .ref t2, .ref t3, .ref t4])) (.ref a) (memP md) ∧ MemOk md := by
      intro v hv
      simp only [List.mem_cons, List.not_mem_nil, or_false] at hv
      rcases hv with rfl | rfl | rfl | rfl
      · exact ⟨t1, .nothing, rfl, .tup (k5 _ _ (at_new ht2 upd_same)) (by tm_at "xtd"), trivial⟩
      · exact ⟨t2, .nothing, rfl, .tup (k5 _ _ upd_same) (by tm_at "xtd"), trivial⟩
      · exact ⟨t3, .times m1, rfl, .tup (k7 _ _ upd_same) (by tm_at "xtd"), m10, by omega⟩
      · exact ⟨t4, .sum m2, rfl, .tup (at_new hsm upd_same) (by tm_at "xtd"), m20, by omega⟩
    have hsm8 : (upd (upd H7 t4 (.tup [.str "sum", .int m2])) sm (.lst [.ref t1, .ref t2, .ref t3, .ref t4])) sm = some (.lst [.ref t1, .ref t2, .ref t3, .ref t4]) := upd_same
    have hsm0 : H7 sm = none := (Same.new ht4).free hsm
    generalize upd (upd H7 t4 (.tup [.str "sum", .int m2])) sm (.lst [.ref t1, .ref t2, .ref t3, .ref t4]) = H8 at e8 hmem hsm8 k7 k5 ⊢
    have P8 := P7.same e8
    have nsp : sm ≠ p := fun z => by obtain ⟨o, ho⟩ := P7.there; rw [z, ho] at hsm0; cases hsm0
    refine ⟨p, .ref sm, rfl, P8, .inr (.inl ⟨sm, _, rfl, nsp, SqL.of hsm8, Nat.le_of_ble_eq_true rfl, Nat.le_of_ble_eq_true rfl, fun v H9 hv P9 b9 => ?_⟩)⟩
    obtain ⟨mm, md, rfl, hmd, hok⟩ := hmem v hv
    have mut9 : Mut p H4 H9 := (Mut.pool P4 b5).trans ((Mut.same e5).trans ((Mut.pool (P5.same e5) b6).trans ((Mut.same e6).trans ((Mut.pool (P6.same e6) b7).trans ((Mut.same e8).trans (Mut.pool P8 b9))))))
    have hts9 := hts4.mutp nDp mut9
    have hks9 := hks.mutp nfp ((Mut.same e5).trans ((Mut.pool (P5.same e5) b6).trans ((Mut.same e6).trans ((Mut.pool (P6.same e6) b7).trans ((Mut.same e8).trans (Mut.pool P8 b9))))))
    have hmd9 := hmd.keep (TupKeep.but P8 b9) _ _
    have ball : But p H H9 := b1.trans (b2.trans (b4.trans mut9.b))
    clear hmem hv k7 k5 mut9
    tm_at "xst"
    rename_i dp hdp
    have D0 : H dp = none := But.free ball P9 hdp
    have ndp : dp ≠ p := fun z => by obtain ⟨o, ho⟩ := P9.there; rw [z, ho] at hdp; cases hdp
    have e10 : Same H9 (upd H9 dp (.dK [])) := Same.new hdp
    have nDdp : D ≠ dp := fun z => by obtain ⟨xs, h, _⟩ := hts9; rw [z, hdp] at h; cases h
    have nfdp : f ≠ dp := fun z => by obtain ⟨xs, h, _⟩ := hks9; rw [z, hdp] at h; cases h
    refine ⟨p, 5, rfl, P9.same e10, by decide, by decide, fun mo H11 mo0 mo1 P11 b11 => ?_⟩
    have hdp11 : H11 dp = some (.dK []) := b11 dp _ ndp upd_same
    have mut11 : Mut p H9 H11 := (Mut.same e10).trans (.pool (P9.same e10) b11)
    tm_at "xst"
    refine ⟨hdp11, [(.inr "tills", .ref D), (.inr "links", .ref f), (.inr "money", .int mo), (.inr "memory", .ref mm)], rfl, Nat.le_of_ble_eq_true rfl, ?_⟩
    rw [model4]
    have mut12 : Mut dp H11 (upd H11 dp (.dK [(.inr "tills", .ref D), (.inr "links", .ref f), (.inr "money", .int mo), (.inr "memory", .ref mm)])) := .dK hdp11
    have P12 : Pool (upd H11 dp (.dK [(.inr "tills", .ref D), (.inr "links", .ref f), (.inr "money", .int mo), (.inr "memory", .ref mm)])) p := P11.upd ndp
    have hd12 : (upd H11 dp (.dK [(.inr "tills", .ref D), (.inr "links", .ref f), (.inr "money", .int mo), (.inr "memory", .ref mm)])) dp = some (.dK [(.inr "tills", .ref D), (.inr "links", .ref f), (.inr "money", .int mo), (.inr "memory", .ref mm)]) := upd_same
    have ball12 : But p H (upd H11 dp (.dK [(.inr "tills", .ref D), (.inr "links", .ref f), (.inr "money", .int mo), (.inr "memory", .ref mm)])) := (ball.trans mut11.b).mut D0
    generalize upd H11 dp (.dK [(.inr "tills", .ref D), (.inr "links", .ref f), (.inr "money", .int mo), (.inr "memory", .ref mm)]) = H12 at mut12 P12 hd12 ball12 ⊢
    tm_at "xst"
    refine ⟨p, 4, rfl, P12, by decide, by decide, fun tp H13 tp0 tp1 P13 b13 => ?_⟩
    tm_at "xst"
    refine ⟨p, 2, rfl, P13, by decide, by decide, fun nu H14 nu0 nu1 P14 b14 => ?_⟩
    tm_at "xst"
    rename_i tq htq
    have hd14 := b14 dp _ ndp (b13 dp _ ndp hd12)
    have mut15 : Mut p H12 (upd H14 tq (.tup [.int tp, .bl (decide (V.int nu = V.int 0))])) := (Mut.pool P12 b13).trans ((Mut.pool P13 b14).trans (.same (Same.new htq)))
    have P15 := P14.but (o := .tup [.int tp, .bl (decide (V.int nu = V.int 0))]) htq
    have hd15 := at_new (o := .tup [.int tp, .bl (decide (V.int nu = V.int 0))]) htq hd14
    refine q_gTup (SqT.of upd_same) rfl ?_
    tm_at "xst"
    refine q_setD hd15 (show 4 < sizeLine by decide) ?_
    tm_at "xst"
    refine q_setD upd_same (Nat.lt_of_le_of_lt (length_putK _ _ _) (show 4 + 1 < sizeLine by decide)) ?_
    tm_at "xst"
    rw [upd_upd, model6]
    generalize hB : decide (V.int nu = V.int 0) = nb at hd15 mut15 P15 ⊢
    have mut16 : Mut dp (upd H14 tq (.tup [.int tp, .bl nb])) (upd (upd H14 tq (.tup [.int tp, .bl nb])) dp (.dK (modelK D f mo mm tp nb))) := .dK hd15
    have hnm' : (ts.map (·.name)) = ns := hnm
    refine k dp D f mm ⟨ts, ks, mo, md, tp, nb⟩ known _ D0 ((ball12.trans mut15.b).mut D0) (P15.upd ndp) ⟨upd_same, ?_, ?_, ?_⟩ ⟨?_, ?_, ?_, ?_, ?_, ?_, ?_, ?_, ?_, ?_⟩ ?_ ?_ hs ?_ ?_
    · exact (((hts9.mutp nDp mut11).mutp nDdp mut12).mutp nDp mut15).mutp nDdp mut16
    · exact (((hks9.mutp nfp mut11).mutp nfdp mut12).mutp nfp mut15).mutp nfdp mut16
    · exact hmd9.keep (mut11.t.trans (mut12.t.trans (mut15.t.trans mut16.t))) _ _
    · have := congrArg List.length hnm'
      rw [List.length_map] at this
      show 1 ≤ ts.length
      omega
    · have := congrArg List.length hnm'
      rw [List.length_map] at this
      show ts.length ≤ 4
      omega
    · show (ts.map (·.name)).Nodup
      rw [hnm']
      exact nd0
    · intro t ht
      have : t.name ∈ ns := by rw [← hnm']; exact List.mem_map.mpr ⟨t, ht, rfl⟩
      exact (hns _ this).1
    · exact hlm
    · intro l hl
      obtain ⟨a1, a2, a3⟩ := hlt l hl
      show l.1 ∈ ts.map (·.name) ∧ l.2 ∈ ts.map (·.name) ∧ _
      rw [hnm']
      exact ⟨hp.mem_iff.mp a1, hp.mem_iff.mp a2, a3⟩
    · exact hsub.nodup (pairs_nodup ndk ndk)
    · exact ⟨mo0, by show mo ≤ 9; omega⟩
    · cases md with
      | nothing => trivial
      | times n => exact hok
      | sum n => exact hok
    · exact ⟨tp0, by show tp ≤ 5; omega⟩
    · have h1 := hsub.length_le
      rw [prs_len] at h1
      have h2 : known.length * known.length ≤ 4 * 4 := Nat.mul_le_mul (by omega) (by omega)
      show ks.length ≤ 100
      omega
    · show known.Perm (ts.map (·.name))
      rw [hnm']
      exact hp
    · exact asc_sub hsub ndk
    · intro s hs
      have : s ∈ ns := by rw [← hnm']; exact hs
      exact (hns _ this).2
end
end Toy
namespace Toy
open PySem PySem.Spec PyProof.Rows L2 Kx
def sp__law_odds : Sp := fun vs H Q _ => ∃ (s : Str), vs = [.str s] ∧ s.length ≤ 8 ∧ s.length ≠ 0 ∧
  ∀ (l : Addr) (H' : Hp) (n : Nat), H l = none → Same H H' → OddL H' l n → n ≤ 100 → Q (.ref l) H'
section
variable {P : Program} {w : World} {K : PySem.W.Frag} {mg : Str → Option Value} {base : Heap}
theorem ok__law_odds (T : Txt K mg) : FnOk P w K mg base CX0 1 T.a__law_odds T.d__law_odds ["_law_name"] sp__law_odds := by
  have nd := sc__law_odds.nd
  refine T.F__law_odds.ok sc__law_odds (fun vs H Q E h => ?_) (fun cdv A outer s H vs Q E hr h => ?_)
  · obtain ⟨s, rfl, _⟩ := h; rfl
  · obtain ⟨s, rfl, h8, h0, k⟩ := h
    have hu := hu_of hr
    refine ⟨_, (pss_cons (ps_set (i := 1) nd rfl (by first | exact Or.inl rfl | exact Or.inr rfl) (pe_lst (pa_cons (pe_non) (pa_cons (pe_int) (pa_cons (pe_str) (pa_cons (pe_tup pa_nil) (pa_cons (pe_tup (pa_cons (pe_str) (pa_cons (pe_int) pa_nil))) (pa_cons (pe_tup (pa_cons (pe_str) pa_nil)) (pa_cons (pe_tup (pa_cons (pe_str) (pa_cons (pe_int) pa_nil))) (pa_cons (pe_tup (pa_cons (pe_str) (pa_cons (pe_int) pa_nil))) (pa_cons (pe_tup (pa_cons (pe_str) (pa_cons (pe_bl) pa_nil))) (pa_cons (pe_tup (pa_cons (pe_str) (pa_cons (pe_str) pa_nil))) pa_nil))))))))))))
      (pss_cons (ps_set (i := 1) nd rfl (by first | exact Or.inl rfl | exact Or.inr rfl) (pe_op op_cat (pv 1) (pe_lst (pa_cons (pe_tup (pa_cons (pe_str) (pa_cons (pe_int) (pa_cons (pe_int) pa_nil)))) (pa_cons (pe_tup (pa_cons (pe_str) (pa_cons (pv 0) (pa_cons (pe_int) pa_nil)))) pa_nil)))))
      (pss_cons (ps_set (i := 1) nd rfl (by first | exact Or.inl rfl | exact Or.inr rfl) (pe_op op_cat (pv 1) (pe_lst (pa_cons (pe_tup (pa_cons (pe_str) (pa_cons (pv 0) pa_nil))) (pa_cons (pe_tup (pa_cons (pe_str) (pa_cons (pv 0) (pa_cons (pe_int) pa_nil)))) (pa_cons (pe_tup (pa_cons (pe_str) (pa_cons (pv 0) (pa_cons (pe_int) pa_nil)))) (pa_cons (pe_tup (pa_cons (pe_str) (pa_cons (pv 0) (pa_cons (pe_bl) pa_nil)))) (pa_cons (pe_tup (pa_cons (pe_str) (pa_cons (pe_str) (pa_cons (pe_int) pa_nil)))) pa_nil))))))))
      (pss_cons (ps_set (i := 1) nd rfl (by first | exact Or.inl rfl | exact Or.inr rfl) (pe_op op_cat (pv 1) (pe_lst (pa_cons (pe_tup (pa_cons (pe_str) (pa_cons (pv 0) (pa_cons (pe_int) (pa_cons (pe_int) pa_nil))))) (pa_cons (pe_tup (pa_cons (pe_str) (pa_cons (pe_non) (pa_cons (pe_int) pa_nil)))) (pa_cons (pe_tup (pa_cons (pe_str) (pa_cons (pe_int) (pa_cons (pv 0) pa_nil)))) (pa_cons (pe_tup (pa_cons (pe_str) pa_nil)) (pa_cons (pe_tup (pa_cons (pe_str) (pa_cons (pe_str) pa_nil))) pa_nil))))))))
      (pss_cons (ps_set (i := 1) nd rfl (by first | exact Or.inl rfl | exact Or.inr rfl) (pe_op op_cat (pv 1) (pe_lst (pa_cons (pe_tup (pa_cons (pe_str) (pa_cons (pe_non) pa_nil))) (pa_cons (pe_tup (pa_cons (pe_str) (pa_cons (pe_str) pa_nil))) (pa_cons (pe_tup (pa_cons (pe_str) (pa_cons (pe_str) pa_nil))) (pa_cons (pe_tup (pa_cons (pe_str) pa_nil)) (pa_cons (pe_tup (pa_cons (pe_str) (pa_cons (pv 0) pa_nil))) (pa_cons (pe_tup (pa_cons (pe_str) (pa_cons (pv 0) pa_nil))) pa_nil)))))))))
      (pss_one (ps_ret (pe_op op_cat (pv 1) (pe_lst (pa_cons (pe_lst (pa_cons (pe_str) (pa_cons (pv 0) pa_nil))) (pa_cons (pe_lst (pa_cons (pe_str) pa_nil)) (pa_cons (pe_lst (pa_cons (pe_tup (pa_cons (pe_str) pa_nil)) pa_nil)) (pa_cons (pe_tup (pa_cons (pv 0) (pa_cons (pe_str) pa_nil))) (pa_cons (pe_tup (pa_cons (pe_lst (pa_cons (pe_str) pa_nil)) (pa_cons (pv 0) pa_nil))) (pa_cons (pe_tup (pa_cons (pe_str) (pa_cons (pe_lst (pa_cons (pv 0) pa_nil)) pa_nil))) (pa_cons (pe_dnewK) pa_nil)))))))))))))))), ?_⟩
    tm_at "xst"
    refine q_catO (n := 10) (m := 2) ⟨_, by tm_at "xlook", rfl, ?_⟩ ⟨_, upd_same, rfl, ?_⟩ (by decide) fun f1 H1 hf1 e1 d1 => ?_
    · tm_at "xeach"
      all_goals (tm_at "xodd")
    · tm_at "xeach"
      all_goals (tm_at "xodd")
    tm_at "xst"
    refine q_catO (n := 12) (m := 5) (d1.same (by tm_at "xsame")) ⟨_, upd_same, rfl, ?_⟩ (by decide) fun f2 H2 hf2 e2 d2 => ?_
    · tm_at "xeach"
      all_goals (tm_at "xodd")
    have s2 : Same H1 H2 := by
      refine L2.Same.trans ?_ e2
      tm_at "xsame"
    clear e2 hf2
    tm_at "xst"
    refine q_catO (n := 17) (m := 5) (d2.same (by tm_at "xsame")) ⟨_, upd_same, rfl, ?_⟩ (by decide) fun f3 H3 hf3 e3 d3 => ?_
    · tm_at "xeach"
      all_goals (tm_at "xodd")
    have s3 : Same H2 H3 := by
      refine L2.Same.trans ?_ e3
      tm_at "xsame"
    clear e3 hf3
    tm_at "xst"
    refine q_catO (n := 22) (m := 6) (d3.same (by tm_at "xsame")) ⟨_, upd_same, rfl, ?_⟩ (by decide) fun f4 H4 hf4 e4 d4 => ?_
    · tm_at "xeach"
      all_goals (tm_at "xodd")
    have s4 : Same H3 H4 := by
      refine L2.Same.trans ?_ e4
      tm_at "xsame"
    clear e4 hf4
    tm_at "xst"
    refine q_catO (n := 28) (m := 7) (d4.same (by tm_at "xsame")) ⟨_, by tm_at "xlook", rfl, ?_⟩ (by decide) fun f5 H5 hf5 e5 d5 => ?_
    · tm_at "xeach"
      all_goals (tm_at "xodd")
    have s5 : Same H4 H5 := by
      refine L2.Same.trans ?_ e5
      tm_at "xsame"
    have s1 : Same H H1 := by
      refine L2.Same.trans ?_ e1
      tm_at "xsame"
    have sA : Same H H4 := s1.trans (s2.trans (s3.trans s4))
    tm_at "xst"
    refine k f5 H5 35 (sA.free ?_) (sA.trans s5) d5 (by decide)
    refine L2.Same.free ?_ hf5
    tm_at "xsame"
end
end Toy
namespace Toy
open PySem PySem.Spec PyProof.Rows L2 Kx
def sp__law_pool (K : PySem.W.Frag) : Sp := fun vs H Q _ => ∃ (a : Addr) (ns : List Int) (k : Int), vs = [.ref a, .int k] ∧ SqL K H a (ns.map V.int) ∧ ns.length ≤ 63 ∧ 0 ≤ k ∧ k ≤ 1000 ∧ ∀ p H', H p = none → Pool H' p → Same H H' → Q (.ref p) H'
section
variable {P : Program} {w : World} {K : PySem.W.Frag} {mg : Str → Option Value} {base : Heap}
theorem ok__law_pool (T : Txt K mg) : FnOk P w K mg base CX0 1 T.a__law_pool T.d__law_pool ["_law_script", "_law_k"] (sp__law_pool K) := by
  have nd := sc__law_pool.nd
  refine T.F__law_pool.ok sc__law_pool (fun vs H Q E h => ?_) (fun cdv A outer s H vs Q E hr h => ?_)
  · obtain ⟨p, ns, n, rfl, _⟩ := h; rfl
  · obtain ⟨a, ns, n, rfl, hs, hl, hn, hn2, k⟩ := h
    have hu := hu_of hr
    refine ⟨_, (pss_cons (ps_set (i := 2) nd rfl (by first | exact Or.inl rfl | exact Or.inr rfl) (pe_ifExp (pt_cmpR op_lt (pv 1) (pe_callB (call_lenK (K := K) rfl) (by rfl) T.no_len (by decide +kernel) (pa_cons (pv 0) pa_nil)) (nomark _)) (pe_callB (call_max2 rfl) (by rfl) T.no_max (by decide +kernel) (pa_cons (pe_callTy call_int1 (by rfl) T.no_int (by decide +kernel) (pa_cons (pe_ix (ix_listK (K := K) rfl) (pv 0) (pv 1) (fun _ _ => rfl)) pa_nil)) (pa_cons (pe_callTy call_int1 (by rfl) T.no_int (by decide +kernel) (pa_cons (pe_op op_sub (pe_un un_neg (pe_int)) (pe_ix (ix_listK (K := K) rfl) (pv 0) (pv 1) (fun _ _ => rfl))) pa_nil)) pa_nil))) (pe_int)))
      (pss_cons (ps_set (i := 3) nd rfl (by first | exact Or.inl rfl | exact Or.inr rfl) (pe_op op_add (pe_op op_mod (pe_callTy call_int1 (by rfl) T.no_int (by decide +kernel) (pa_cons (pe_op op_mul (pe_op op_add (pe_op op_mod (pe_callTy call_int1 (by rfl) T.no_int (by decide +kernel) (pa_cons (pv 2) pa_nil)) (pe_int)) (pe_op op_mul (pe_int) (pe_op op_add (pv 1) (pe_int)))) (pe_int)) pa_nil)) (pe_int)) (pe_int)))
      (pss_one (ps_ret (pe_lst (pa_cons (pe_op op_mul (pv 2) (pe_callTy call_int1 (by rfl) T.no_int (by decide +kernel) (pa_cons (pe_cmpR op_ge (pv 2) (pe_op op_pow (pe_int) (pe_int)) (nomark _)) pa_nil))) (pa_cons (pe_op op_mod (pe_callTy call_int1 (by rfl) T.no_int (by decide +kernel) (pa_cons (pe_op op_mul (pv 3) (pv 3)) pa_nil)) (pe_int)) pa_nil))))))), ?_⟩
    refine q_seq ?_
    refine q_asgN ?_
    refine q_cut (fun v H' => H' = H ∧ ∃ z, v = .int z ∧ 0 ≤ z) (fun Q' kq => ?_) ?_
    · tm_at "xst"
      refine q_lenL hs ?_
      tm_at "xst"
      refine i_dec (fun h1 => ?_) (fun h1 => ?_)
      · rw [List.length_map] at h1
        have hlt : n.toNat < ns.length := by omega
        have e : atI (ns.map V.int) n = some (V.int ns[n.toNat]) := atI_of hn (by rw [List.getElem?_map, List.getElem?_eq_getElem hlt]; rfl)
        generalize ns[n.toNat] = x at e
        tm_at "xst"
        refine q_ixL hs e ?_
        tm_at "xst"
        refine q_ixL hs e ?_
        tm_at "xst"
        exact kq _ _ ⟨rfl, _, rfl, by split <;> omega⟩
      · tm_at "xst"
        exact kq _ _ ⟨rfl, 7, rfl, by decide⟩
    rintro v H' ⟨rfl, z, rfl, hz⟩
    tm_at "xst"
    refine q_I (by decide) ?_
    tm_at "xst"
    refine q_I (.inl ⟨by decide, by decide⟩) ?_
    tm_at "xst"
    refine q_I (.inr ⟨by decide, by decide⟩) ?_
    tm_at "xst"
    refine q_I (by decide) ?_
    tm_at "xst"
    have e0 := Int.emod_nonneg ((z % 2147483629 + 104729 * (n + 1)) * 48271) (show (2147483629 : Int) ≠ 0 by decide)
    have e1 := Int.emod_lt_of_pos ((z % 2147483629 + 104729 * (n + 1)) * 48271) (show (0 : Int) < 2147483629 by decide)
    generalize ((z % 2147483629 + 104729 * (n + 1)) * 48271) % 2147483629 = c at e0 e1 ⊢
    refine q_I ⟨by decide, by decide, by decide⟩ ?_
    tm_at "xst"
    refine q_I (.inr ⟨by split <;> decide, by split <;> decide⟩) ?_
    tm_at "xst"
    refine q_I (.inl ⟨by omega, by omega⟩) ?_
    tm_at "xst"
    refine q_I (by decide) ?_
    refine ⟨show 2 ≤ sizeLine by decide, fun p hp => k p _ hp ⟨_, _, upd_same, ?_, Int.emod_nonneg _ (by decide), ?_⟩ (Same.new hp)⟩
    · exact Int.mul_nonneg hz (by split <;> decide)
    · have := Int.emod_lt_of_pos ((c + 1) * (c + 1)) (show (0 : Int) < 2147483629 by decide)
      omega
end
end Toy
namespace Toy
open PySem PySem.Spec PyProof.Rows L2 Kx
def sp_Town_names (cT cC : Addr) : Sp := fun vs H Q _ => ∃ (a : Addr) (M : ModelD), vs = [.ref a] ∧ TownAt cT cC H a M ∧ ∀ l H', H l = none → H' = upd H l (.lst (M.names.map V.str)) → Q (.ref l) H'
section
variable {P : Program} {w : World} {K : PySem.W.Frag} {mg : Str → Option Value} {base : Heap}
theorem ok_Town_names (T : Txt K mg) : FnOk P w K mg base CX0 1 T.a_Town_names T.d_Town_names ["self"] (sp_Town_names T.c_Town T.c_Till) := by
  have nd := sc_Town_names.nd
  refine T.F_Town_names.ok sc_Town_names (fun vs H Q E h => ?_) (fun cdv A outer s H vs Q E hr h => ?_)
  · obtain ⟨a, M, rfl, _⟩ := h; rfl
  · obtain ⟨a, M, rfl, hT, k⟩ := h
    have hu := hu_of hr
    refine ⟨_, (pss_one (ps_ret (pe_lc (own := [("till", 1)]) rfl nd (pi_tupK (K := K) rfl (pe_fldK (K := K) rfl (pv 0) rfl)) (blkOk_by (N := ["self", "till"]) (sc := defScope s_Town_names) (by decide +kernel)) (fun _ _ _ _ _ => (pg_name (i := 1) nd rfl (by first | exact Or.inl rfl | exact Or.inr rfl))) (fun _ _ _ _ _ => pts_nil) (fun _ _ _ _ _ => (pe_fldK (K := K) rfl (pv 1) rfl))))), ?_⟩
    obtain ⟨dx, tt, bn, lk, mm, rs, h, ht, hts, hb, hl, hm⟩ := hT.ex
    tm_at "xst"
    refine q_fld h T.cl_Town T.n_Town__tills (by tm_at "xlk") ?_
    refine ⟨tt, rfl, ⟨_, SqT.of ht⟩, fun D hD => ?_⟩
    refine lc_idx (n := rs.length) (walk_tup (K := K) (a := tt) (xs := rs)) rs (M.names.map V.str) rfl (by rw [List.length_map, hts.length_eq]; unfold ModelD.names; rw [List.length_map]) (Nat.lt_of_le_of_lt (by rw [hts.length_eq]; exact hT.good.t4) (by decide)) (fun o => SqT.of (at_new hD ht)) (fun i H x H' y => y) (fun i x y o Q' hx hy q => ?_) (k D _ hD rfl)
    obtain ⟨t, h1, h2⟩ := hts.get hx
    obtain ⟨dt, rfl, dx2, h2⟩ := h2
    unfold ModelD.names at hy
    rw [List.map_map, List.getElem?_map, h1] at hy
    cases hy
    tm_at "xst"
    refine q_fld (at_new hD h2) T.cl_Till T.n_Till_name (by tm_at "xlk") ?_
    exact q
end
end Toy
namespace Toy
open PySem PySem.Spec PyProof.Rows L2 Kx
def sp_events_of (cT cC : Addr) : Sp := fun vs H Q _ => ∃ (a : Addr) (M : ModelD), vs = [.ref a] ∧ TownAt cT cC H a M ∧ ∀ l H', H l = none → Same H H' → LstD H' l (allEv M.names) → Q (.ref l) H'
section
variable {P : Program} {w : World} {K : PySem.W.Frag} {mg : Str → Option Value} {base : Heap}
theorem ok_events_of (T : Txt K mg) : FnOk P w K mg base CX0 2 T.a_events_of T.d_events_of ["town"] (sp_events_of T.c_Town T.c_Till) := by
  have nd := sc_events_of.nd
  refine T.F_events_of.ok sc_events_of (fun vs H Q E h => ?_) (fun cdv A outer s H vs Q E hr h => ?_)
  · obtain ⟨a, M, rfl, _⟩ := h; rfl
  · obtain ⟨a, M, rfl, hT, k⟩ := h
    have hu := hu_of hr
    refine ⟨_, (pss_cons (ps_set (i := 1) nd rfl (by first | exact Or.inl rfl | exact Or.inr rfl) (pe_meth0 (pv 0) T.cl_Town T.m_Town_names (ok_Town_names T) (hr.mono (by decide)) T.b_Town_names .nil pass0))
      (pss_cons (ps_setLc (i := 2) (own := [("name", 3)]) rfl nd rfl rfl (sw_true rfl rfl rfl (by decide +kernel)) (pi_listK (K := K) rfl (pv 1)) (blkOk_by (N := ["town", "names", "events", "name", "units"]) (sc := defScope s_events_of) (by decide +kernel)) (fun _ _ _ _ _ => (pg_name (i := 3) nd rfl (by first | exact Or.inl rfl | exact Or.inr rfl))) (fun _ _ _ _ _ => pts_nil) (fun _ _ _ _ _ => (pe_tup (pa_cons (pe_str) (pa_cons (pv 3) pa_nil)))))
      (pss_cons (ps_expr (pe_bm PySem.F.plainAttrs_list PySem.F.slot_list_extend PySem.F.type_list_extend mt_extend (pv 2) (pa_cons (pe_lc (own := [("name", 3)]) rfl nd (pi_listK (K := K) rfl (pv 1)) (blkOk_by (N := ["town", "names", "events", "name", "units"]) (sc := defScope s_events_of) (by decide +kernel)) (fun _ _ _ _ _ => (pg_name (i := 3) nd rfl (by first | exact Or.inl rfl | exact Or.inr rfl))) (fun _ _ _ _ _ => pts_nil) (fun _ _ _ _ _ => (pe_tup (pa_cons (pe_str) (pa_cons (pv 3) pa_nil))))) pa_nil)))
      (pss_cons (ps_expr (pe_bm PySem.F.plainAttrs_list PySem.F.slot_list_extend PySem.F.type_list_extend mt_extend (pv 2) (pa_cons (pe_lc2 (own := [("name", 3), ("units", 4)]) (vs1 := [4]) rfl nd (pi_listK (K := K) rfl (pv 1)) (blkOk_by (N := ["town", "names", "events", "name", "units"]) (sc := defScope s_events_of) (by decide +kernel)) (by decide) (fun _ _ _ _ _ => (pg_name (i := 3) nd rfl (by first | exact Or.inl rfl | exact Or.inr rfl))) (fun _ _ _ _ _ => pts_nil) (fun _ _ _ _ _ => (pi_tupK (K := K) rfl (pe_glob (v := .ref T.w_UNITS) rfl T.g_UNITS rfl))) (fun _ _ _ _ _ => (pg_name (i := 4) nd rfl (by first | exact Or.inl rfl | exact Or.inr rfl))) (fun _ _ _ _ _ => pts_nil) (fun _ _ _ _ _ => (pe_tup (pa_cons (pe_str) (pa_cons (pv 3) (pa_cons (pv 4) pa_nil)))))) pa_nil)))
      (pss_cons (ps_expr (pe_bm PySem.F.plainAttrs_list PySem.F.slot_list_extend PySem.F.type_list_extend mt_extend (pv 2) (pa_cons (pe_lc (own := [("units", 4)]) rfl nd (pi_tupK (K := K) rfl (pe_glob (v := .ref T.w_UNITS) rfl T.g_UNITS rfl)) (blkOk_by (N := ["town", "names", "events", "name", "units"]) (sc := defScope s_events_of) (by decide +kernel)) (fun _ _ _ _ _ => (pg_name (i := 4) nd rfl (by first | exact Or.inl rfl | exact Or.inr rfl))) (fun _ _ _ _ _ => pts_nil) (fun _ _ _ _ _ => (pe_tup (pa_cons (pe_str) (pa_cons (pv 4) pa_nil))))) pa_nil)))
      (pss_cons (ps_expr (pe_bm PySem.F.plainAttrs_list PySem.F.slot_list_append PySem.F.type_list_append mt_append (pv 2) (pa_cons (pe_tup (pa_cons (pe_str) pa_nil)) pa_nil)))
      (pss_cons (ps_expr (pe_bm PySem.F.plainAttrs_list PySem.F.slot_list_extend PySem.F.type_list_extend mt_extend (pv 2) (pa_cons (pe_lc (own := [("name", 3)]) rfl nd (pi_listK (K := K) rfl (pv 1)) (blkOk_by (N := ["town", "names", "events", "name", "units"]) (sc := defScope s_events_of) (by decide +kernel)) (fun _ _ _ _ _ => (pg_name (i := 3) nd rfl (by first | exact Or.inl rfl | exact Or.inr rfl))) (fun _ _ _ _ _ => pts_nil) (fun _ _ _ _ _ => (pe_tup (pa_cons (pe_str) (pa_cons (pv 3) pa_nil))))) pa_nil)))
      (pss_one (ps_ret (pv 2)))))))))), ?_⟩
    obtain ⟨dx, tt, bn, lk, mm, rs, ha, _⟩ := hT.ex
    have hn : M.names.length ≤ 4 := by unfold ModelD.names; rw [List.length_map]; exact hT.good.t4
    tm_at "xst"
    refine ⟨a, dx, _, rfl, ha, by tm_at "xlk", ?_⟩
    tm_at "xst"
    refine ⟨a, M, rfl, hT, fun l H1 hl e1 => ?_⟩
    have hL : H1 l = some (.lst (M.names.map V.str)) := by rw [e1, upd_same]
    have s1 : Same H H1 := by rw [e1]; exact Same.new hl
    generalize M.names = ns at hn hL k
    tm_at "xst"
    refine ⟨l, rfl, ⟨_, SqL.of hL⟩, fun D hD => ?_⟩
    refine lc_td walk_list hD (ns.map (wordP "cut")) (by rw [List.length_map, List.length_map]) (by rw [List.length_map]; omega) (fun H e => SqL.of (e _ _ hL)) (ns.map V.str) (fun i H x H' y => y) (fun i x d H Q' hx hd e q => ?_) (fun H2 e2 d2 => ?_)
    · obtain ⟨n, _, rfl, rfl⟩ := at_maps hx hd
      tm_at "xst"
      exact q _ _ (Same.new (by assumption)) (by unfold wordP; tm_at "xtd")
    have hD0 : H D = none := s1.free hD
    have s2 : Same H H2 := s1.trans e2
    have hL2 := e2 _ _ hL
    -- lines
    tm_at "xst"
    obtain ⟨xs2, hx2, _⟩ := id d2
    refine ⟨.inl ⟨rfl, _, SqL.of hx2⟩, ?_⟩
    tm_at "xst"
    refine ⟨l, rfl, ⟨_, SqL.of hL2⟩, fun D2 hD2 => ?_⟩
    refine lc_td walk_list hD2 (ns.map (wordP "line")) (by rw [List.length_map, List.length_map]) (by rw [List.length_map]; omega) (fun H e => SqL.of (e _ _ hL2)) (ns.map V.str) (fun i H x H' y => y) (fun i x d H Q' hx hd e q => ?_) (fun H3 e3 d3 => ?_)
    · obtain ⟨n, _, rfl, rfl⟩ := at_maps hx hd
      tm_at "xst"
      exact q _ _ (Same.new (by assumption)) (by unfold wordP; tm_at "xtd")
    tm_at "xst"
    refine q_ext (d2.same e3) d3 (by rw [List.length_map, List.length_map]; omega) fun H4 f4 t4 d4 => ?_
    have s4 : Same H H4 := Same.but0 (s2.trans e3) hD0 f4
    have nlD : l ≠ D := ne_of_none hL hD
    have hL4 := f4 _ _ nlD (e3 _ _ hL2)
    -- payments
    tm_at "xst"
    obtain ⟨xs4, hx4, _⟩ := id d4
    refine ⟨.inl ⟨rfl, _, SqL.of hx4⟩, ?_⟩
    tm_at "xst"
    refine ⟨l, rfl, ⟨_, SqL.of hL4⟩, fun D3 hD3 => ?_⟩
    refine lc2_td (n := ns.length) (n1 := 2) (J1 := Itt K T.w_UNITS) (by have z := walk_list (K := K) (a := l) (xs := ns.map V.str); rw [List.length_map] at z; exact z) (walk_tup (K := K) (a := T.w_UNITS) (xs := [.int 1, .int 2])) (by decide) hD3 (ns.map V.str) [.int 1, .int 2] (ns.map fun n => [some (payP n 1), some (payP n 2)]) (by rw [List.length_map]) (fun ds h => ?_) (by omega) (fun H e => SqL.of (e _ _ hL4)) (fun H _ => T.q_UNITS.sq) (fun i H x H' y => y) (fun i H x H' y => y) (fun i x H R _ _ q => ?_) (fun i i1 x y ds d H Q' hx hy hds hd e q => ?_) (fun i i1 x y ds d H Q' hx hy hds hd e q => ?_) (fun H5 e5 d5 => ?_)
    · obtain ⟨n, _, rfl⟩ := List.mem_map.mp h
      rfl
    · tm_at "xst"
      exact ⟨_, rfl, ⟨_, T.q_UNITS.sq⟩, q⟩
    · rw [List.getElem?_map] at hds
      cases en : ns[i]? with
      | none => rw [en] at hds; cases hds
      | some n =>
        rw [en] at hds
        cases hds
        refine q_yes ?_
        have ed : d.isSome = true := by
          match i1, hd with
          | 0, hd => cases hd; rfl
          | 1, hd => cases hd; rfl
          | i1 + 2, hd => simp at hd
        rw [← ed]
        exact q H (Same.refl H)
    · rw [List.getElem?_map] at hds hx
      cases en : ns[i]? with
      | none => rw [en] at hds; cases hds
      | some n =>
        rw [en] at hds hx
        cases hds
        cases hx
        match i1, hd, hy with
        | 0, hd, hy =>
          cases hd
          cases hy
          tm_at "xst"
          exact q _ _ (Same.new (by assumption)) (by unfold payP; tm_at "xtd")
        | 1, hd, hy =>
          cases hd
          cases hy
          tm_at "xst"
          exact q _ _ (Same.new (by assumption)) (by unfold payP; tm_at "xtd")
        | i1 + 2, hd, _ => simp at hd
    have ep : ((ns.map fun n => [some (payP n 1), some (payP n 2)]).flatten.filterMap id) = ns.flatMap fun n => [payP n 1, payP n 2] := by
      generalize ns = z
      induction z with
      | nil => rfl
      | cons a r ih => rw [List.map_cons, List.flatten_cons, List.filterMap_append, ih, List.flatMap_cons]; rfl
    rw [ep] at d5
    tm_at "xst"
    refine q_ext (d4.same e5) d5 (by rw [List.length_append, List.length_map, List.length_map, flat2_len]; omega) fun H6 f6 t6 d6 => ?_
    have s6 : Same H H6 := Same.but0 (s4.trans e5) hD0 f6
    have hL6 := f6 _ _ nlD (e5 _ _ hL4)
    generalize hB : ns.map (wordP "cut") ++ ns.map (wordP "line") ++ (ns.flatMap fun n => [payP n 1, payP n 2]) = B at d6
    have hBl : B.length ≤ 20 := by rw [← hB, List.length_append, List.length_append, List.length_map, List.length_map, flat2_len]; omega
    -- top-ups
    tm_at "xst"
    obtain ⟨xs6, hx6, _⟩ := id d6
    refine ⟨.inl ⟨rfl, _, SqL.of hx6⟩, ?_⟩
    tm_at "xst"
    refine ⟨_, rfl, ⟨_, T.q_UNITS.sq⟩, fun D4 hD4 => ?_⟩
    refine lc_td (walk_tup (K := K) (a := T.w_UNITS) (xs := [.int 1, .int 2])) hD4 [.tuple [.str "top", .int 1], .tuple [.str "top", .int 2]] rfl (by decide) (fun H e => T.q_UNITS.sq) [.int 1, .int 2] (fun i H x H' y => y) (fun i x d H Q' hx hd e q => ?_) (fun H7 e7 d7 => ?_)
    · match i, hx, hd with
      | 0, hx, hd =>
        cases hx
        cases hd
        tm_at "xst"
        exact q _ _ (Same.new (by assumption)) (by tm_at "xtd")
      | 1, hx, hd =>
        cases hx
        cases hd
        tm_at "xst"
        exact q _ _ (Same.new (by assumption)) (by tm_at "xtd")
      | i + 2, hx, _ => simp at hx
    tm_at "xst"
    refine q_ext (d6.same e7) d7 (by show B.length + 2 ≤ 1000; omega) fun H8 f8 t8 d8 => ?_
    have s8 : Same H H8 := Same.but0 (s6.trans e7) hD0 f8
    have hL8 := f8 _ _ nlD (e7 _ _ hL6)
    tm_at "xst"
    obtain ⟨xs8, hx8, _⟩ := id d8
    refine ⟨.inl ⟨rfl, _, SqL.of hx8⟩, ?_⟩
    tm_at "xst"
    rename_i p9 hp9
    refine q_app (d := .tuple [.str "lose"]) (d8.same (Same.new hp9)) (by tm_at "xtd") (by rw [List.length_append]; show B.length + 2 ≤ 1000; omega) fun H9 f9 t9 d9 => ?_
    have s9 : Same H H9 := Same.but0 (s8.trans (Same.new hp9)) hD0 f9
    have hL9 := f9 _ _ nlD (at_new hp9 hL8)
    -- agains
    tm_at "xst"
    obtain ⟨xs9, hx9, _⟩ := id d9
    refine ⟨.inl ⟨rfl, _, SqL.of hx9⟩, ?_⟩
    tm_at "xst"
    refine ⟨l, rfl, ⟨_, SqL.of hL9⟩, fun D5 hD5 => ?_⟩
    refine lc_td walk_list hD5 (ns.map (wordP "again")) (by rw [List.length_map, List.length_map]) (by rw [List.length_map]; omega) (fun H e => SqL.of (e _ _ hL9)) (ns.map V.str) (fun i H x H' y => y) (fun i x d H Q' hx hd e q => ?_) (fun H10 e10 d10 => ?_)
    · obtain ⟨n, _, rfl, rfl⟩ := at_maps hx hd
      tm_at "xst"
      exact q _ _ (Same.new (by assumption)) (by unfold wordP; tm_at "xtd")
    tm_at "xst"
    refine q_ext (d9.same e10) d10 (by rw [List.length_append, List.length_append, List.length_map]; show B.length + 2 + 1 + _ ≤ 1000; omega) fun H11 f11 t11 d11 => ?_
    have s11 : Same H H11 := Same.but0 (s9.trans e10) hD0 f11
    tm_at "xst"
    refine k D H11 hD0 s11 ?_
    unfold allEv
    rw [hB]
    rw [List.append_assoc B] at d11
    exact d11
end
end Toy
namespace Toy
open PySem PySem.Spec PyProof.Rows L2 Kx
def sp_Town_contains (cT cC : Addr) : Sp := fun vs H Q _ => ∃ (a : Addr) (M : ModelD) (x : V), vs = [.ref a, x] ∧ TownAt cT cC H a M ∧ Any H x ∧ (∀ s, x = .str s → s.length ≤ 100000) ∧ ∀ H', Same H H' → Q (.bl (inNames M.names x)) H'
section
variable {P : Program} {w : World} {K : PySem.W.Frag} {mg : Str → Option Value} {base : Heap}
theorem ok_Town_contains (T : Txt K mg) : FnOk P w K mg base CX0 2 T.a_Town_contains T.d_Town_contains ["self", "x"] (sp_Town_contains T.c_Town T.c_Till) := by
  have nd := sc_Town_contains.nd
  refine T.F_Town_contains.ok sc_Town_contains (fun vs H Q E h => ?_) (fun cdv A outer s H vs Q E hr h => ?_)
  · obtain ⟨a, M, x, rfl, _⟩ := h; rfl
  · obtain ⟨a, M, x, rfl, hT, ha, hz, k⟩ := h
    have hu := hu_of hr
    refine ⟨_, (pss_one (ps_ret ((pe_and (pe_call (ok_is_name T) (hr.mono (by decide)) rfl T.g_is_name T.k_is_name T.b_is_name .nil pass0 (pa_cons (pv 1) pa_nil)) (pe_one (pe_cmp (pc_din hu (pv 1) (pe_fldK (K := K) rfl (pv 0) rfl)))))))), ?_⟩
    tm_at "xst"
    refine ⟨x, rfl, ha, hz, fun H1 e1 => ?_⟩
    have k1 := k H1 e1
    obtain ⟨dx, tt, bn, lk, mm, rs, h1, h2, h3, h4, _⟩ := (hT.same e1).ex
    tm_at "xst"
    refine i_b (fun hb => ?_) (fun hb => ?_)
    · obtain ⟨s, rfl⟩ : ∃ s, x = .str s := by
        cases x <;> first | exact ⟨_, rfl⟩ | cases hb
      refine ⟨_, rfl, _, rfl, a, T.c_Town, dx, _, _, rfl, h1, T.cl_Town, T.n_Town__by_name, by tm_at "xlk", bn, _, rfl, DGet.k (k := Sum.inr s) h4, ?_⟩
      rw [valV_zip (α := Unit) Sum.inr (fun a b e => by injection e) M.names rs s (by rw [names_len, h3.length_eq])]
      exact k1
    · have e : inNames M.names x = false := by
        cases x with
        | str s =>
          show decide (s ∈ M.names) = false
          refine decide_eq_false fun z => ?_
          have := hT.good.name z
          rw [show isNameV (.str s) = isNameS s from rfl, this] at hb
          cases hb
        | _ => rfl
      rw [e] at k1
      exact k1
end
end Toy
namespace Toy
open PySem PySem.Spec PyProof.Rows L2 Kx
def sp_is_units : Sp := fun vs H Q _ => ∃ x, vs = [x] ∧ Any H x ∧ Q (.bl (isUnits x)) H
section
variable {P : Program} {w : World} {K : PySem.W.Frag} {mg : Str → Option Value} {base : Heap}
theorem ok_is_units (T : Txt K mg) : FnOk P w K mg base CX0 2 T.a_is_units T.d_is_units ["value"] sp_is_units := by
  have nd := sc_is_units.nd
  refine T.F_is_units.ok sc_is_units (fun vs H Q E h => ?_) (fun cdv A outer s H vs Q E hr h => ?_)
  · obtain ⟨x, rfl, _⟩ := h; rfl
  · obtain ⟨x, rfl, ha, k⟩ := h
    have hu := hu_of hr
    refine ⟨_, (pss_one (ps_ret ((pe_and (pe_call (ok_is_integer T) (hr.mono (by decide)) rfl T.g_is_integer T.k_is_integer T.b_is_integer .nil pass0 (pa_cons (pv 0) pa_nil)) (pe_one (pe_cmpR (op_in_seqK (K := K) rfl) (pv 0) (pe_glob (v := .ref T.w_UNITS) rfl T.g_UNITS rfl) (by rfl))))))), ?_⟩
    tm_at "xst"
    refine ⟨x, rfl, ha, ?_⟩
    tm_at "xst"
    refine i_b (fun h1 => ?_) (fun h1 => ?_)
    · obtain ⟨i, rfl⟩ := isInt_true h1
      tm_at "xst"
      refine ⟨_, _, rfl, .inr T.q_UNITS.sq, rfl, rfl, ?_⟩
      have e : inV (.int i) [.int 1, .int 2] = isUnits (.int i) := by
        unfold inV isUnits
        simp only [List.any_cons, List.any_nil, Bool.or_false]
        show ((1 : Int) == i || (2 : Int) == i) = _
        by_cases h1 : i = 1
        · subst h1; rfl
        · by_cases h2 : i = 2
          · subst h2; rfl
          · have a1 : ((1 : Int) == i) = false := by simpa using Ne.symm h1
            have a2 : ((2 : Int) == i) = false := by simpa using Ne.symm h2
            rw [a1, a2, decide_eq_false (fun z => h1 (by injection z)), decide_eq_false (fun z => h2 (by injection z))]
      show Q (.bl (if false = true then _ else inV (.int i) [.int 1, .int 2])) H
      rw [if_neg Bool.false_ne_true, e]
      exact k
    · have e : isUnits x = false := by
        unfold isUnits
        rw [decide_eq_false (fun z => by rw [z] at h1; cases h1), decide_eq_false (fun z => by rw [z] at h1; cases h1)]
        rfl
      rw [e] at k
      exact k
end
end Toy
namespace Toy
open PySem PySem.Spec PyProof.Rows L2 Kx
def sp_is_event (cT cC : Addr) : Sp := fun vs H Q _ => ∃ (a : Addr) (M : ModelD) (x : V), vs = [.ref a, x] ∧ TownAt cT cC H a M ∧ AnyE H x ∧ ∀ H', Same H H' → Q (.bl (isEvH M.names H x)) H'
section
variable {P : Program} {w : World} {K : PySem.W.Frag} {mg : Str → Option Value} {base : Heap}
theorem ok_is_event (T : Txt K mg) : FnOk P w K mg base CX0 3 T.a_is_event T.d_is_event ["town", "value"] (sp_is_event T.c_Town T.c_Till) := by
  have nd := sc_is_event.nd
  refine T.F_is_event.ok sc_is_event (fun vs H Q E h => ?_) (fun cdv A outer s H vs Q E hr h => ?_)
  · obtain ⟨a, M, x, rfl, _⟩ := h; rfl
  · obtain ⟨a, M, x, rfl, hT, ha, k⟩ := h
    have hu := hu_of hr
    refine ⟨_, (pss_cons (ps_if (PW.pt (pw_or (pt_not (pt_val (pe_callB (call_isiK' (K := K) rfl) (by rfl) T.no_isinstance (by decide +kernel) (pa_cons (pv 1) (pa_cons (pe_bltn (v := .ty "tuple") (u := .type "tuple") (by rfl) T.no_tuple (by decide +kernel) rfl) pa_nil))))) (pw_or (pt_not (pt_chain op_le op_le (pe_int) (pe_callB (call_lenK (K := K) rfl) (by rfl) T.no_len (by decide +kernel) (pa_cons (pv 1) pa_nil)) (pe_int))) (pw_or1 (pt_not (pt_val (pe_callB (call_isiK' (K := K) rfl) (by rfl) T.no_isinstance (by decide +kernel) (pa_cons (pe_ix (ix_tupK (K := K) rfl) (pv 1) (pe_int) (fun _ _ => rfl)) (pa_cons (pe_bltn (v := .ty "str") (u := .type "str") (by rfl) T.no_str (by decide +kernel) rfl) pa_nil))))))))) (pss_one (ps_ret (pe_bl))) pss_nil)
      (pss_cons (ps_if (pt_cmpR op_eq (pe_callB (call_lenK (K := K) rfl) (by rfl) T.no_len (by decide +kernel) (pa_cons (pv 1) pa_nil)) (pe_int) (nomark _)) (pss_one (ps_ret (pe_cmpR op_eq (pe_ix (ix_tupK (K := K) rfl) (pv 1) (pe_int) (fun _ _ => rfl)) (pe_str) (nomark _)))) pss_nil)
      (pss_cons (ps_if (pt_cmpR op_eq (pe_callB (call_lenK (K := K) rfl) (by rfl) T.no_len (by decide +kernel) (pa_cons (pv 1) pa_nil)) (pe_int) (nomark _)) (pss_one (ps_ret ((pe_and (pe_cmpR op_eq (pe_ix (ix_tupK (K := K) rfl) (pv 1) (pe_int) (fun _ _ => rfl)) (pe_str) (nomark _)) (pe_and (pe_cmpR (op_in_own (ok_Town_contains T) (hr.mono (by decide)) T.m_Town_contains T.b_Town_contains pass0) (pe_ix (ix_tupK (K := K) rfl) (pv 1) (pe_int) (fun _ _ => rfl)) (pv 0) (by rfl)) (pe_one (pe_call (ok_is_units T) (hr.mono (by decide)) rfl T.g_is_units T.k_is_units T.b_is_units .nil pass0 (pa_cons (pe_ix (ix_tupK (K := K) rfl) (pv 1) (pe_int) (fun _ _ => rfl)) pa_nil)))))))) pss_nil)
      (pss_cons (ps_if (pt_cmpR op_eq (pe_ix (ix_tupK (K := K) rfl) (pv 1) (pe_int) (fun _ _ => rfl)) (pe_str) (nomark _)) (pss_one (ps_ret (pe_call (ok_is_units T) (hr.mono (by decide)) rfl T.g_is_units T.k_is_units T.b_is_units .nil pass0 (pa_cons (pe_ix (ix_tupK (K := K) rfl) (pv 1) (pe_int) (fun _ _ => rfl)) pa_nil)))) pss_nil)
      (pss_one (ps_ret ((pe_and (pe_cmpR (op_in_seqK (K := K) rfl) (pe_ix (ix_tupK (K := K) rfl) (pv 1) (pe_int) (fun _ _ => rfl)) (pe_glob (v := .ref T.w_TILL_WORDS) rfl T.g_TILL_WORDS rfl) (by rfl)) (pe_one (pe_cmpR (op_in_own (ok_Town_contains T) (hr.mono (by decide)) T.m_Town_contains T.b_Town_contains pass0) (pe_ix (ix_tupK (K := K) rfl) (pv 1) (pe_int) (fun _ _ => rfl)) (pv 0) (by rfl))))))))))), ?_⟩
    obtain ⟨dx, tt, bn, lk, mm, rs, hins, _⟩ := hT.ex
    have k0 := k H (Same.refl H)
    tm_at "xst"
    refine q_isTuple ha.1 ?_
    tm_at "xst"
    refine i_b (fun h1 => ?_) (fun h1 => ?_)
    · rw [isEvH_no ha.1 (by simpa using h1)] at k0
      tm_at "xst"
      exact k0
    obtain ⟨t, xs, rfl, h⟩ := kind_tup ha.1 (by simpa using h1)
    have hx := ha.2 t xs rfl h
    rw [isEvH_tup h] at k0 k
    have no : evT M.names xs = false → Q (.bl false) H := fun e => by rw [e] at k0; exact k0
    tm_at "xst"
    refine q_lenT (SqT.of h) ?_
    tm_at "xst"
    refine i_dec (fun h2 => ?_) (fun h2 => ?_)
    rotate_left
    · tm_at "xst"
      exact no (by
        have e0 : xs = [] := List.length_eq_zero_iff.mp (by omega)
        rw [e0]; rfl)
    tm_at "xst"
    refine i_ndec (fun h3 => ?_) (fun h3 => ?_)
    · tm_at "xst"
      exact no (evT_long (by omega))
    obtain ⟨y0, r, rfl⟩ : ∃ y r, xs = y :: r := by
      cases xs with
      | nil => simp at h2
      | cons y r => exact ⟨y, r, rfl⟩
    have hy0 := hx y0 (by simp)
    tm_at "xst"
    refine q_ixT (SqT.of h) (atI_of (Int.le_refl 0) rfl) ?_
    tm_at "xst"
    refine q_isStr hy0.1 ?_
    tm_at "xst"
    refine i_b (fun h4 => ?_) (fun h4 => ?_)
    · tm_at "xst"
      exact no (evT_nstr (kind_nstr (by simpa using h4)))
    obtain ⟨w0, rfl⟩ := kind_str hy0.1 (by simpa using h4)
    tm_at "xst"
    refine q_lenT (SqT.of h) ?_
    tm_at "xst"
    match r, h, hx, k, k0, no, h3 with
    | [], h, hx, k, k0, no, _ =>
      refine iteT ?_
      tm_at "xst"
      refine q_ixT (SqT.of h) (atI_of (Int.le_refl 0) rfl) ?_
      tm_at "xst"
      have e : decide (V.str w0 = V.str "lose") = evT M.names [.str w0] := by
        show _ = decide (w0 = "lose")
        by_cases z : w0 = "lose"
        · rw [decide_eq_true z, decide_eq_true (congrArg V.str z)]
        · rw [decide_eq_false z, decide_eq_false (fun q => z (by injection q))]
      rw [e]
      exact k0
    | [y1, y2], h, hx, k, k0, no, _ =>
      have hy1 := hx y1 (by simp)
      have hy2 := hx y2 (by simp)
      refine iteF ?_
      tm_at "xst"
      refine q_lenT (SqT.of h) ?_
      tm_at "xst"
      refine iteT ?_
      tm_at "xst"
      refine q_ixT (SqT.of h) (atI_of (Int.le_refl 0) rfl) ?_
      tm_at "xst"
      refine i_dec (fun h5 => ?_) (fun h5 => ?_)
      rotate_left
      · exact no (by
          show (decide (w0 = "pay") && _ && _) = false
          rw [decide_eq_false (fun z => h5 (congrArg V.str z))]; rfl)
      have hw : w0 = "pay" := by injection h5
      tm_at "xst"
      refine q_ixT (SqT.of h) (atI_of (by decide) rfl) ?_
      tm_at "xst"
      refine ⟨a, dx, _, rfl, hins, a, M, y1, rfl, hT, hy1.1, hy1.2, fun H1 e1 => ?_⟩
      refine ⟨_, rfl, ?_⟩
      have k1 := k H1 e1
      tm_at "xst"
      refine i_b (fun h6 => ?_) (fun h6 => ?_)
      · tm_at "xst"
        refine q_ixT (SqT.of (e1 _ _ h)) (atI_of (by decide) rfl) ?_
        tm_at "xst"
        refine ⟨y2, rfl, hy2.1.same e1, ?_⟩
        have e : isUnits y2 = evT M.names [.str w0, y1, y2] := by
          show _ = (decide (w0 = "pay") && inNames M.names y1 && isUnits y2)
          have h6' : inNames M.names y1 = true := h6
          rw [decide_eq_true hw, h6', Bool.true_and, Bool.true_and]
        rw [e]
        exact k1
      · have e : evT M.names [.str w0, y1, y2] = false := by
          show (decide (w0 = "pay") && inNames M.names y1 && isUnits y2) = false
          have h6' : inNames M.names y1 = false := h6
          rw [h6', Bool.and_false, Bool.false_and]
        rw [e] at k1
        exact k1
    | [y1], h, hx, k, k0, no, _ =>
      have hy1 := hx y1 (by simp)
      refine iteF ?_
      tm_at "xst"
      refine q_lenT (SqT.of h) ?_
      tm_at "xst"
      refine iteF ?_
      tm_at "xst"
      refine q_ixT (SqT.of h) (atI_of (Int.le_refl 0) rfl) ?_
      tm_at "xst"
      refine i_dec (fun h5 => ?_) (fun h5 => ?_)
      · have hw : w0 = "top" := by injection h5
        tm_at "xst"
        refine q_ixT (SqT.of h) (atI_of (by decide) rfl) ?_
        tm_at "xst"
        refine ⟨y1, rfl, hy1.1, ?_⟩
        have e : isUnits y1 = evT M.names [.str w0, y1] := by
          show _ = (if w0 = "top" then isUnits y1 else _)
          rw [if_pos hw]
        rw [e]
        exact k0
      have hw : ¬ w0 = "top" := fun z => h5 (congrArg V.str z)
      have ee : evT M.names [.str w0, y1] = ((decide (w0 = "cut") || decide (w0 = "line") || decide (w0 = "again")) && inNames M.names y1) := by
        show (if w0 = "top" then isUnits y1 else _) = _
        rw [if_neg hw]
      tm_at "xst"
      refine q_ixT (SqT.of h) (atI_of (Int.le_refl 0) rfl) ?_
      tm_at "xst"
      refine ⟨_, _, rfl, .inr T.q_TILL_WORDS.sq, rfl, rfl, ?_⟩
      have e3 : inV (.str w0) [.str "cut", .str "line", .str "again"] = (decide (w0 = "cut") || decide (w0 = "line") || decide (w0 = "again")) := by
        unfold inV
        simp only [List.any_cons, List.any_nil, Bool.or_false]
        show ((("cut" : Str) == w0) || ((("line" : Str) == w0) || (("again" : Str) == w0))) = _
        have d : ∀ z : Str, (z == w0) = decide (w0 = z) := fun z => by
          by_cases q : w0 = z
          · subst q; simp
          · have : (z == w0) = false := by simpa using Ne.symm q
            rw [this, decide_eq_false q]
        rw [d, d, d, Bool.or_assoc]
      tm_at "xst"
      show (if (if false = true then _ else inV (.str w0) [.str "cut", .str "line", .str "again"]) = true then _ else _)
      rw [if_neg (c := (false = true)) Bool.false_ne_true, e3]
      refine i_b (fun h6 => ?_) (fun h6 => ?_)
      · tm_at "xst"
        refine q_ixT (SqT.of h) (atI_of (by decide) rfl) ?_
        tm_at "xst"
        refine ⟨a, dx, _, rfl, hins, a, M, y1, rfl, hT, hy1.1, hy1.2, fun H1 e1 => ?_⟩
        refine ⟨_, rfl, ?_⟩
        have k1 := k H1 e1
        rw [ee, h6, Bool.true_and] at k1
        exact k1
      · rw [ee, h6, Bool.false_and] at k0
        exact k0
    | _ :: _ :: _ :: _, _, _, _, _, _, h3 => simp at h3; omega
end
end Toy
namespace Toy
open PySem PySem.Spec PyProof.Rows L2 Kx
def sp_law (K : PySem.W.Frag) : Sp := fun vs H Q _ => ∃ (a : Addr) (ns : List Int), vs = [.ref a] ∧ SqL K H a (ns.map V.int) ∧ ns.length ≤ 63 ∧ ∀ H', Q (.bl true) H'
section
variable {P : Program} {w : World} {K : PySem.W.Frag} {mg : Str → Option Value} {base : Heap}
theorem ok_law (T : Txt K mg) : FnOk P w K mg base CX0 8 T.a_law T.d_law ["_law_script"] (sp_law K) := by
  have nd := sc_law.nd
  refine T.F_law.ok sc_law (fun vs H Q E h => ?_) (fun cdv A outer s H vs Q E hr h => ?_)
  · obtain ⟨p, ns, rfl, _⟩ := h; rfl
  · obtain ⟨a, ns, rfl, hs, hl, k⟩ := h
    have hu := hu_of hr
    refine ⟨_, (pss_cons (ps_for PassesOwn.never rfl (pi_range1 (by rfl) T.no_range (pa_cons (pe_callB (call_max2 rfl) (by rfl) T.no_max (by decide +kernel) (pa_cons (pe_int) (pa_cons (pe_callB (call_min2 rfl) (by rfl) T.no_min (by decide +kernel) (pa_cons (pe_callB (call_lenK (K := K) rfl) (by rfl) T.no_len (by decide +kernel) (pa_cons (pv 0) pa_nil)) (pa_cons (pe_int) pa_nil))) pa_nil))) pa_nil)) (pg_name (i := 1) nd rfl (by first | exact Or.inl rfl | exact Or.inr rfl)) (pss_cons (ps_set (i := 2) nd rfl (by first | exact Or.inl rfl | exact Or.inr rfl) (pe_call (ok__law_pool T) (hr.mono (by decide)) rfl T.g__law_pool T.k__law_pool T.b__law_pool .nil pass0 (pa_cons (pv 0) (pa_cons (pv 1) pa_nil))))
      (pss_cons (ps_set (i := 3) nd rfl (by first | exact Or.inl rfl | exact Or.inr rfl) (pe_call (ok__law_model T) (hr.mono (by decide)) rfl T.g__law_model T.k__law_model T.b__law_model .nil pass0 (pa_cons (pv 2) (pa_cons (pe_int) pa_nil))))
      (pss_cons (ps_par (i := 4) (j := 5) (by rfl) nd rfl rfl (by decide) rfl rfl (pa_cons (pe_call (ok__law_made T) (hr.mono (by decide)) rfl T.g__law_made T.k__law_made T.b__law_made .nil pass0 (pa_cons (pv 3) pa_nil)) (pa_cons (pe_ix (ix_tupK (K := K) rfl) (pe_ix (ix_listK (K := K) rfl) (pe_dget hu (pv 3) (pe_str) (fun _ _ => rfl)) (pe_int) (fun _ _ => rfl)) (pe_int) (fun _ _ => rfl)) pa_nil)) (by rfl))
      (pss_cons (ps_for PassesOwn.never rfl (pi_range1 (by rfl) T.no_range (pa_cons (pe_int) pa_nil)) (pg_name (i := 6) nd rfl (by first | exact Or.inl rfl | exact Or.inr rfl)) (pss_cons (ps_set (i := 7) nd rfl (by first | exact Or.inl rfl | exact Or.inr rfl) (pe_call (ok_events_of T) (hr.mono (by decide)) rfl T.g_events_of T.k_events_of T.b_events_of .nil pass0 (pa_cons (pv 4) pa_nil)))
      (pss_cons (ps_if (pt_cmpR (op_neDK (K := K) rfl hr.units) (pv 7) (pe_call (ok__law_all T) (hr.mono (by decide)) rfl T.g__law_all T.k__law_all T.b__law_all .nil pass0 (pa_cons (pv 3) pa_nil)) (nomark _)) (pss_one (ps_ret (pe_bl))) pss_nil)
      (pss_one (ps_expr (pe_bm PySem.F.plainAttrs_list PySem.F.slot_list_append PySem.F.type_list_append mt_append (pv 7) (pa_cons (pe_non) pa_nil)))))))
      (pss_cons (ps_for PassesOwn.never rfl (pi_listK (K := K) rfl (pe_call (ok__law_all T) (hr.mono (by decide)) rfl T.g__law_all T.k__law_all T.b__law_all .nil pass0 (pa_cons (pv 3) pa_nil))) (pg_name (i := 8) nd rfl (by first | exact Or.inl rfl | exact Or.inr rfl)) (pss_one (ps_if (PW.pt (pw_or (pt_cmpR op_notBl (pe_call (ok_is_event T) (hr.mono (by decide)) rfl T.g_is_event T.k_is_event T.b_is_event .nil pass0 (pa_cons (pv 4) (pa_cons (pv 8) pa_nil))) (pe_bl) (nomark _)) (pw_or1 (pt_cmpR op_notBl (pe_call (ok_is_event T) (hr.mono (by decide)) rfl T.g_is_event T.k_is_event T.b_is_event .nil pass0 (pa_cons (pv 4) (pa_cons (pe_callTy (call_list_ofK (K := K) rfl) (by rfl) T.no_list (by decide +kernel) (pa_cons (pv 8) pa_nil)) pa_nil))) (pe_bl) (nomark _))))) (pss_one (ps_ret (pe_bl))) pss_nil)))
      (pss_one (ps_for PassesOwn.never rfl (pi_listK (K := K) rfl (pe_call (ok__law_odds T) (hr.mono (by decide)) rfl T.g__law_odds T.k__law_odds T.b__law_odds .nil pass0 (pa_cons (pv 5) pa_nil))) (pg_name (i := 9) nd rfl (by first | exact Or.inl rfl | exact Or.inr rfl)) (pss_one (ps_if (pt_cmpR op_notBl (pe_call (ok_is_event T) (hr.mono (by decide)) rfl T.g_is_event T.k_is_event T.b_is_event .nil pass0 (pa_cons (pv 4) (pa_cons (pv 9) pa_nil))) (pe_bl) (nomark _)) (pss_one (ps_ret (pe_bl))) pss_nil))))))))))
      (pss_one (ps_ret (pe_bl)))), ?_⟩
    tm_at "xst"
    refine q_lenL hs ?_
    tm_at "xst"
    refine ⟨_, rfl, by split <;> split <;> omega, by split <;> split <;> omega, for_range (fun _ σ' H' => (∃ v1 v2 v3 v4 v5 v6 v7 v8 v9, σ' = [some (.ref a), v1, v2, v3, v4, v5, v6, v7, v8, v9]) ∧ Same H H') ⟨⟨_, _, _, _, _, _, _, _, _, rfl⟩, Same.refl H⟩ ?_ ?_⟩
    · rintro i σ' H' hi ⟨⟨v1, v2, v3, v4, v5, v6, v7, v8, v9, rfl⟩, e⟩
      have hk : i < 2 := by
        revert hi
        split <;> split <;> omega
      tm_at "xst"
      refine ⟨a, ns, (0 + i), rfl, e.seq hs, hl, by omega, by omega, fun p H1 hp P1 e1 => ?_⟩
      have hp0 : H p = none := e.free hp
      have e01 := e.trans e1
      tm_at "xst"
      refine ⟨p, 4, rfl, P1, by decide, by decide, fun m tl ll mm M known H2 hm b2 P2 hM g h100 hkp hks hasc hodd => ?_⟩
      have s2 : Same H H2 := Same.but0 e01 hp0 b2
      tm_at "xst"
      refine ⟨m, tl, ll, mm, M, known, rfl, hM, g, h100, hkp, hks, hasc, fun tw H3 htw e3 hT => ?_⟩
      have hM3 := hM.same e3
      have s3 := s2.trans e3
      obtain ⟨t0, tr, ets⟩ : ∃ t0 tr, M.tills = t0 :: tr := by
        have := g.t1
        cases e : M.tills with
        | nil => rw [e] at this; simp at this
        | cons t0 tr => exact ⟨t0, tr, rfl⟩
      obtain ⟨xs, hxs, hxt⟩ := hM3.tills
      rw [ets, List.map_cons] at hxt
      have hnm0 : t0.name ∈ M.names := by unfold ModelD.names; rw [ets]; simp
      have hnm8 : ∀ n ∈ M.names, n.length ≤ 8 := fun n hn => isName_len (g.name hn)
      have hok : ∀ n ∈ M.names, PyData.strOk n = true := fun n hn => isName_ok (g.name hn)
      have hokN : okNs M.names := fun n hn => ⟨g.name hn, hodd n hn⟩
      have h10 : M.tills.length ≤ 10 := Nat.le_trans g.t4 (by decide)
      cases hxt with
      | cons hx0 hxr =>
        cases hx0 with
        | tup hx0 hxi =>
          cases hxi with
          | cons hn0 hxi =>
            cases hn0
            tm_at "xst"
            refine q_dgetS hM3.d (by unfold modelK; tm_at "xval") ?_
            tm_at "xst"
            refine q_ixL (SqL.of hxs) (atI_of (by decide) rfl) ?_
            tm_at "xst"
            refine q_ixT (SqT.of hx0) (atI_of (by decide) rfl) ?_
            tm_at "xst"
            refine ⟨2, rfl, by decide, by decide, for_range (fun _ σ' H' => (∃ u1 u2 u3 u4, σ' = [some (.ref a), some (.int (0 + (i : Nat))), some (.ref p), some (.ref m), some (.ref tw), some (.str t0.name), u1, u2, u3, u4]) ∧ Same H3 H') ⟨⟨_, _, _, _, rfl⟩, Same.refl H3⟩ ?_ ?_⟩
            · rintro j σ' H4 hj ⟨⟨u1, u2, u3, u4, rfl⟩, e4⟩
              tm_at "xst"
              refine ⟨tw, M, rfl, hT.same e4, fun told H5 htold e5 d5 => ?_⟩
              tm_at "xst"
              refine ⟨m, tl, ll, mm, M, rfl, hM3.same (e4.trans e5), h10, fun al H6 hal e6 d6 => ?_⟩
              have d56 := d5.same e6
              refine ⟨.list (allEv M.names), .list (allEv M.names), d56.dp, d6.dp, (allEv_shaped hok).1, (allEv_shaped hok).1, ?_⟩
              rw [PySem.SeqAt.eqv_refl _ (allEv_shaped hok).2]
              tm_at "xst"
              refine ⟨_, rfl, ?_⟩
              tm_at "xst"
              obtain ⟨zs, hz, _⟩ := id d56
              refine ⟨.inl ⟨rfl, _, SqL.of hz⟩, ?_⟩
              tm_at "xst"
              refine q_app (d := .none) d56 .non (Nat.le_trans (allEv_len (by rw [names_len]; exact g.t4)) (by decide)) fun H7 f7 t7 d7 => ?_
              exact ⟨⟨_, _, _, _, rfl⟩, Same.but0 (e4.trans (e5.trans e6)) (e4.free htold) f7⟩
            rintro σ' H4 ⟨⟨u1, u2, u3, u4, rfl⟩, e4⟩
            tm_at "xst"
            refine ⟨m, tl, ll, mm, M, rfl, hM3.same e4, h10, fun al H5 hal e5 d5 => ?_⟩
            have hT5 := hT.same (e4.trans e5)
            obtain ⟨ys, hy, hyt⟩ := d5
            refine ⟨al, rfl, ⟨_, SqL.of hy⟩, for_list (K := K) (a := al) (xs := ys) (fun _ σ' H' => (∃ u1 u2 u3 u4, σ' = [some (.ref a), some (.int (0 + (i : Nat))), some (.ref p), some (.ref m), some (.ref tw), some (.str t0.name), u1, u2, u3, u4]) ∧ Same H5 H') ⟨⟨_, _, _, _, rfl⟩, Same.refl H5⟩ (fun _ _ _ _ h => SqL.of (h.2 _ _ hy)) ?_ ?_⟩
            · rintro j x σ' H6 hx ⟨⟨u1, u2, u3, u4, rfl⟩, e6⟩
              obtain ⟨d, hd, htd⟩ := hyt.get hx
              obtain ⟨da, dxs, rfl, hda, hev, hit⟩ := allEv_is hnm8 (List.mem_of_getElem? hd) htd
              have hda6 := e6 _ _ hda
              tm_at "xst"
              refine ⟨tw, M, .ref da, rfl, hT5.same e6, AnyE.tup hda6 (fun y hy => ⟨(hit y hy).1.same e6, (hit y hy).2⟩), fun H7 e7 => ?_⟩
              rw [isEvH_tup hda6, hev]
              tm_at "xst"
              tm_at "xdec"
              tm_at "xst"
              refine ⟨da, dxs, rfl, .inr (SqT.of (e7 _ _ hda6)), fun l hl => ?_⟩
              tm_at "xst"
              refine ⟨tw, M, .ref l, rfl, (hT5.same (e6.trans e7)).same (Same.new hl), AnyE.lst upd_same, fun H8 e8 => ?_⟩
              have hno : isEvH M.names (upd H7 l (.lst dxs)) (.ref l) = false := by simp [isEvH, upd_same]
              rw [hno]
              tm_at "xst"
              tm_at "xdec"
              tm_at "xst"
              exact ⟨⟨_, _, _, _, rfl⟩, e6.trans (e7.trans ((Same.new hl).trans e8))⟩
            rintro σ' H6 ⟨⟨u1, u2, u3, u4, rfl⟩, e6⟩
            tm_at "xst"
            refine ⟨t0.name, rfl, hnm8 _ hnm0, isName_pos (g.name hnm0), fun ol H7 n hol e7 d7 hn => ?_⟩
            have hT7 := hT5.same (e6.trans e7)
            obtain ⟨zs, hz, _, hzo⟩ := d7
            refine ⟨ol, rfl, ⟨_, SqL.of hz⟩, for_list (K := K) (a := ol) (xs := zs) (fun _ σ' H' => (∃ u1 u2 u3 u4, σ' = [some (.ref a), some (.int (0 + (i : Nat))), some (.ref p), some (.ref m), some (.ref tw), some (.str t0.name), u1, u2, u3, u4]) ∧ Same H7 H') ⟨⟨_, _, _, _, rfl⟩, Same.refl H7⟩ (fun _ _ _ _ h => SqL.of (h.2 _ _ hz)) ?_ ?_⟩
            · rintro j x σ' H8 hx ⟨⟨u1, u2, u3, u4, rfl⟩, e8⟩
              have ho := (hzo x (List.mem_of_getElem? hx)).same e8
              tm_at "xst"
              refine ⟨tw, M, x, rfl, hT7.same e8, ho.1, fun H9 e9 => ?_⟩
              rw [ho.2 _ hokN]
              tm_at "xst"
              tm_at "xdec"
              tm_at "xst"
              exact ⟨⟨_, _, _, _, rfl⟩, e8.trans e9⟩
            rintro σ' H8 ⟨⟨u1, u2, u3, u4, rfl⟩, e8⟩
            exact ⟨⟨_, _, _, _, _, _, _, _, _, rfl⟩, s3.trans (e4.trans (e5.trans (e6.trans (e7.trans e8))))⟩
    rintro σ' H' ⟨⟨v1, v2, v3, v4, v5, v6, v7, v8, v9, rfl⟩, e⟩
    tm_at "xst"
    exact k _
end
end Toy
namespace Toy
open PySem PySem.Spec PyProof.Rows L2 Kx
theorem all_mk {l : PySem.W.OpenLaw} {w : World} {K : PySem.W.Frag} {h : Heap} {mg : Str → Option Value} {fa : Addr} (X : K.In h) (G : h.Ns mainGlobals mg) (hfa : mg "law" = some (.ref fa))
    {kTown : Addr}
    {kTill : Addr}
    {f1 : Addr} {od1 an1 : Option Addr} {sl1 : Array (Option Value)} {oc1 kV1 dc1 pm1 cd1 ct1 : Value}
    {f2 : Addr} {od2 an2 : Option Addr} {sl2 : Array (Option Value)} {oc2 kV2 dc2 pm2 cd2 ct2 : Value}
    {f3 : Addr} {od3 an3 : Option Addr} {sl3 : Array (Option Value)} {oc3 kV3 dc3 pm3 cd3 ct3 : Value}
    {f4 : Addr} {od4 an4 : Option Addr} {sl4 : Array (Option Value)} {oc4 kV4 dc4 pm4 cd4 ct4 : Value}
    {f5 : Addr} {od5 an5 : Option Addr} {sl5 : Array (Option Value)} {oc5 kV5 dc5 pm5 cd5 ct5 : Value}
    {f6 : Addr} {od6 an6 : Option Addr} {sl6 : Array (Option Value)} {oc6 kV6 dc6 pm6 cd6 ct6 : Value}
    {f7 : Addr} {od7 an7 : Option Addr} {sl7 : Array (Option Value)} {oc7 kV7 dc7 pm7 cd7 ct7 : Value}
    {f8 : Addr} {od8 an8 : Option Addr} {sl8 : Array (Option Value)} {oc8 kV8 dc8 pm8 cd8 ct8 : Value}
    {f9 : Addr} {od9 an9 : Option Addr} {sl9 : Array (Option Value)} {oc9 kV9 dc9 pm9 cd9 ct9 : Value}
    {f10 : Addr} {od10 an10 : Option Addr} {sl10 : Array (Option Value)} {oc10 kV10 dc10 pm10 cd10 ct10 : Value}
    {f11 : Addr} {od11 an11 : Option Addr} {sl11 : Array (Option Value)} {oc11 kV11 dc11 pm11 cd11 ct11 : Value}
    {f12 : Addr} {od12 an12 : Option Addr} {sl12 : Array (Option Value)} {oc12 kV12 dc12 pm12 cd12 ct12 : Value}
    {f13 : Addr} {od13 an13 : Option Addr} {sl13 : Array (Option Value)} {oc13 kV13 dc13 pm13 cd13 ct13 : Value}
    {f14 : Addr} {od14 an14 : Option Addr} {sl14 : Array (Option Value)} {oc14 kV14 dc14 pm14 cd14 ct14 : Value}
    {f15 : Addr} {od15 an15 : Option Addr} {sl15 : Array (Option Value)} {oc15 kV15 dc15 pm15 cd15 ct15 : Value}
    {f16 : Addr} {od16 an16 : Option Addr} {sl16 : Array (Option Value)} {oc16 kV16 dc16 pm16 cd16 ct16 : Value}
    {f17 : Addr} {od17 an17 : Option Addr} {sl17 : Array (Option Value)} {oc17 kV17 dc17 pm17 cd17 ct17 : Value}
    {f18 : Addr} {od18 an18 : Option Addr} {sl18 : Array (Option Value)} {oc18 kV18 dc18 pm18 cd18 ct18 : Value}
    {f19 : Addr} {od19 an19 : Option Addr} {sl19 : Array (Option Value)} {oc19 kV19 dc19 pm19 cd19 ct19 : Value}
    {f20 : Addr} {od20 an20 : Option Addr} {sl20 : Array (Option Value)} {oc20 kV20 dc20 pm20 cd20 ct20 : Value}
    {f21 : Addr} {od21 an21 : Option Addr} {sl21 : Array (Option Value)} {oc21 kV21 dc21 pm21 cd21 ct21 : Value}
    {f22 : Addr} {od22 an22 : Option Addr} {sl22 : Array (Option Value)} {oc22 kV22 dc22 pm22 cd22 ct22 : Value}
    {f23 : Addr} {od23 an23 : Option Addr} {sl23 : Array (Option Value)} {oc23 kV23 dc23 pm23 cd23 ct23 : Value}
    {f24 : Addr} {od24 an24 : Option Addr} {sl24 : Array (Option Value)} {oc24 kV24 dc24 pm24 cd24 ct24 : Value}
    {f25 : Addr} {od25 an25 : Option Addr} {sl25 : Array (Option Value)} {oc25 kV25 dc25 pm25 cd25 ct25 : Value}
    {f26 : Addr} {od26 an26 : Option Addr} {sl26 : Array (Option Value)} {oc26 kV26 dc26 pm26 cd26 ct26 : Value}
    {f27 : Addr} {od27 an27 : Option Addr} {sl27 : Array (Option Value)} {oc27 kV27 dc27 pm27 cd27 ct27 : Value}
    {f28 : Addr} {od28 an28 : Option Addr} {sl28 : Array (Option Value)} {oc28 kV28 dc28 pm28 cd28 ct28 : Value}
    {f29 : Addr} {od29 an29 : Option Addr} {sl29 : Array (Option Value)} {oc29 kV29 dc29 pm29 cd29 ct29 : Value}
    {f30 : Addr} {od30 an30 : Option Addr} {sl30 : Array (Option Value)} {oc30 kV30 dc30 pm30 cd30 ct30 : Value}
    {tk_LONGEST_NAME : Tok}
    {tk_MOST_TILLS : Tok}
    {tk_MOST_TOPS : Tok}
    {tk_TILL_WORDS0 tk_TILL_WORDS1 tk_TILL_WORDS2 : Tok} {w_TILL_WORDS : Addr} {dd_TILL_WORDS : Option Addr} {n_TILL_WORDS : Nat} {sl_TILL_WORDS : Array (Option Value)}
    {tk_TOP_LIMIT : Tok}
    {tk_TOP_MONEY : Tok}
    {tk_TOP_REMEMBERED : Tok}
    {tk_UNITS0 tk_UNITS1 : Tok} {w_UNITS : Addr} {dd_UNITS : Option Addr} {n_UNITS : Nat} {sl_UNITS : Array (Option Value)}
    (p_Town : PySem.W.nsIn K mainGlobals "Town" = some (some (.ref kTown)))
    (pg_Town : PySem.W.plainGet K kTown Str.empty = true)
    (hd_Town : PySem.W.hasDictIn K kTown = true)
    (po_Town : PySem.W.plainOver K kTown = true)
    (sa_Town : PySem.W.findIn K (.ref kTown) "__setattr__" = some (some (.builtin "object.__setattr__")))
    (m_Town : PySem.W.makesIn K kTown = true)
    (q_Town : PySem.W.keepIn K (.ref kTown) = true)
    (n_Town__tills : PySem.W.findIn K (.ref kTown) "_tills" = some none)
    (n_Town__by_name : PySem.W.findIn K (.ref kTown) "_by_name" = some none)
    (n_Town_links : PySem.W.findIn K (.ref kTown) "links" = some none)
    (n_Town_money : PySem.W.findIn K (.ref kTown) "money" = some none)
    (n_Town_memory : PySem.W.findIn K (.ref kTown) "memory" = some none)
    (n_Town_tops : PySem.W.findIn K (.ref kTown) "tops" = some none)
    (n_Town_numbered : PySem.W.findIn K (.ref kTown) "numbered" = some none)
    (p_Till : PySem.W.nsIn K mainGlobals "Till" = some (some (.ref kTill)))
    (pg_Till : PySem.W.plainGet K kTill Str.empty = true)
    (hd_Till : PySem.W.hasDictIn K kTill = true)
    (po_Till : PySem.W.plainOver K kTill = true)
    (sa_Till : PySem.W.findIn K (.ref kTill) "__setattr__" = some (some (.builtin "object.__setattr__")))
    (m_Till : PySem.W.makesIn K kTill = true)
    (q_Till : PySem.W.keepIn K (.ref kTill) = true)
    (n_Till_name : PySem.W.findIn K (.ref kTill) "name" = some none)
    (n_Till_limit : PySem.W.findIn K (.ref kTill) "limit" = some none)
    (n_Till_heeds : PySem.W.findIn K (.ref kTill) "heeds" = some none)
    (ic_Till : PySem.W.findIn K (.ref kTill) "__class__" = some (some (.builtin "object.__class__")))
    (mr_Till : PySem.W.mroIn K kTill (.type "object") = some true)
    (a1 : PySem.W.nsIn K mainGlobals "_law_words_of" = some (some (.ref f1)))
    (l1 : K.lookup f1 = some ⟨oc1, od1, .func (PySem.W.fnOf "_law_words_of" "_law_words_of" (defArgs s__law_words_of) (defBody s__law_words_of) (defScope s__law_words_of) .none kV1 dc1 pm1 an1 cd1 ct1), sl1⟩)
    (c1 : PySem.W.codeIn K cd1 "_law_words_of" = true)
    (k1 : PySem.W.keepIn K (.ref f1) = true)
    (a2 : PySem.W.nsIn K mainGlobals "_law_all" = some (some (.ref f2)))
    (l2 : K.lookup f2 = some ⟨oc2, od2, .func (PySem.W.fnOf "_law_all" "_law_all" (defArgs s__law_all) (defBody s__law_all) (defScope s__law_all) .none kV2 dc2 pm2 an2 cd2 ct2), sl2⟩)
    (c2 : PySem.W.codeIn K cd2 "_law_all" = true)
    (k2 : PySem.W.keepIn K (.ref f2) = true)
    (a3 : PySem.W.nsIn K mainGlobals "is_integer" = some (some (.ref f3)))
    (l3 : K.lookup f3 = some ⟨oc3, od3, .func (PySem.W.fnOf "is_integer" "is_integer" (defArgs s_is_integer) (defBody s_is_integer) (defScope s_is_integer) .none kV3 dc3 pm3 an3 cd3 ct3), sl3⟩)
    (c3 : PySem.W.codeIn K cd3 "is_integer" = true)
    (k3 : PySem.W.keepIn K (.ref f3) = true)
    (a4 : PySem.W.nsIn K mainGlobals "is_integer_to" = some (some (.ref f4)))
    (l4 : K.lookup f4 = some ⟨oc4, od4, .func (PySem.W.fnOf "is_integer_to" "is_integer_to" (defArgs s_is_integer_to) (defBody s_is_integer_to) (defScope s_is_integer_to) .none kV4 dc4 pm4 an4 cd4 ct4), sl4⟩)
    (c4 : PySem.W.codeIn K cd4 "is_integer_to" = true)
    (k4 : PySem.W.keepIn K (.ref f4) = true)
    (a5 : PySem.W.nsIn K mainGlobals "is_limit" = some (some (.ref f5)))
    (l5 : K.lookup f5 = some ⟨oc5, od5, .func (PySem.W.fnOf "is_limit" "is_limit" (defArgs s_is_limit) (defBody s_is_limit) (defScope s_is_limit) .none kV5 dc5 pm5 an5 cd5 ct5), sl5⟩)
    (c5 : PySem.W.codeIn K cd5 "is_limit" = true)
    (k5 : PySem.W.keepIn K (.ref f5) = true)
    (a6 : PySem.W.nsIn K mainGlobals "is_name" = some (some (.ref f6)))
    (l6 : K.lookup f6 = some ⟨oc6, od6, .func (PySem.W.fnOf "is_name" "is_name" (defArgs s_is_name) (defBody s_is_name) (defScope s_is_name) .none kV6 dc6 pm6 an6 cd6 ct6), sl6⟩)
    (c6 : PySem.W.codeIn K cd6 "is_name" = true)
    (k6 : PySem.W.keepIn K (.ref f6) = true)
    (a7 : PySem.W.nsIn K mainGlobals "is_truth" = some (some (.ref f7)))
    (l7 : K.lookup f7 = some ⟨oc7, od7, .func (PySem.W.fnOf "is_truth" "is_truth" (defArgs s_is_truth) (defBody s_is_truth) (defScope s_is_truth) .none kV7 dc7 pm7 an7 cd7 ct7), sl7⟩)
    (c7 : PySem.W.codeIn K cd7 "is_truth" = true)
    (k7 : PySem.W.keepIn K (.ref f7) = true)
    (a8 : PySem.W.findIn K (.ref kTill) "__init__" = some (some (.ref f8)))
    (l8 : K.lookup f8 = some ⟨oc8, od8, .func (PySem.W.fnOf "__init__" "Till.__init__" (defArgs s_Till_init) (defBody s_Till_init) (defScope s_Till_init) .none kV8 dc8 pm8 an8 cd8 ct8), sl8⟩)
    (c8 : PySem.W.codeIn K cd8 "Till.__init__" = true)
    (k8 : PySem.W.keepIn K (.ref f8) = true)
    (i8 : PySem.W.isFn K (.ref f8) = true)
    (a9 : PySem.W.nsIn K mainGlobals "ascending_links" = some (some (.ref f9)))
    (l9 : K.lookup f9 = some ⟨oc9, od9, .func (PySem.W.fnOf "ascending_links" "ascending_links" (defArgs s_ascending_links) (defBody s_ascending_links) (defScope s_ascending_links) .none kV9 dc9 pm9 an9 cd9 ct9), sl9⟩)
    (c9 : PySem.W.codeIn K cd9 "ascending_links" = true)
    (k9 : PySem.W.keepIn K (.ref f9) = true)
    (a10 : PySem.W.nsIn K mainGlobals "is_link" = some (some (.ref f10)))
    (l10 : K.lookup f10 = some ⟨oc10, od10, .func (PySem.W.fnOf "is_link" "is_link" (defArgs s_is_link) (defBody s_is_link) (defScope s_is_link) .none kV10 dc10 pm10 an10 cd10 ct10), sl10⟩)
    (c10 : PySem.W.codeIn K cd10 "is_link" = true)
    (k10 : PySem.W.keepIn K (.ref f10) = true)
    (a11 : PySem.W.nsIn K mainGlobals "is_list" = some (some (.ref f11)))
    (l11 : K.lookup f11 = some ⟨oc11, od11, .func (PySem.W.fnOf "is_list" "is_list" (defArgs s_is_list) (defBody s_is_list) (defScope s_is_list) .none kV11 dc11 pm11 an11 cd11 ct11), sl11⟩)
    (c11 : PySem.W.codeIn K cd11 "is_list" = true)
    (k11 : PySem.W.keepIn K (.ref f11) = true)
    (a12 : PySem.W.nsIn K mainGlobals "check_links" = some (some (.ref f12)))
    (l12 : K.lookup f12 = some ⟨oc12, od12, .func (PySem.W.fnOf "check_links" "check_links" (defArgs s_check_links) (defBody s_check_links) (defScope s_check_links) .none kV12 dc12 pm12 an12 cd12 ct12), sl12⟩)
    (c12 : PySem.W.codeIn K cd12 "check_links" = true)
    (k12 : PySem.W.keepIn K (.ref f12) = true)
    (a13 : PySem.W.nsIn K mainGlobals "is_word" = some (some (.ref f13)))
    (l13 : K.lookup f13 = some ⟨oc13, od13, .func (PySem.W.fnOf "is_word" "is_word" (defArgs s_is_word) (defBody s_is_word) (defScope s_is_word) .none kV13 dc13 pm13 an13 cd13 ct13), sl13⟩)
    (c13 : PySem.W.codeIn K cd13 "is_word" = true)
    (k13 : PySem.W.keepIn K (.ref f13) = true)
    (a14 : PySem.W.nsIn K mainGlobals "is_memory" = some (some (.ref f14)))
    (l14 : K.lookup f14 = some ⟨oc14, od14, .func (PySem.W.fnOf "is_memory" "is_memory" (defArgs s_is_memory) (defBody s_is_memory) (defScope s_is_memory) .none kV14 dc14 pm14 an14 cd14 ct14), sl14⟩)
    (c14 : PySem.W.codeIn K cd14 "is_memory" = true)
    (k14 : PySem.W.keepIn K (.ref f14) = true)
    (a15 : PySem.W.nsIn K mainGlobals "check_parts" = some (some (.ref f15)))
    (l15 : K.lookup f15 = some ⟨oc15, od15, .func (PySem.W.fnOf "check_parts" "check_parts" (defArgs s_check_parts) (defBody s_check_parts) (defScope s_check_parts) .none kV15 dc15 pm15 an15 cd15 ct15), sl15⟩)
    (c15 : PySem.W.codeIn K cd15 "check_parts" = true)
    (k15 : PySem.W.keepIn K (.ref f15) = true)
    (a16 : PySem.W.nsIn K mainGlobals "check_tills" = some (some (.ref f16)))
    (l16 : K.lookup f16 = some ⟨oc16, od16, .func (PySem.W.fnOf "check_tills" "check_tills" (defArgs s_check_tills) (defBody s_check_tills) (defScope s_check_tills) .none kV16 dc16 pm16 an16 cd16 ct16), sl16⟩)
    (c16 : PySem.W.codeIn K cd16 "check_tills" = true)
    (k16 : PySem.W.keepIn K (.ref f16) = true)
    (a17 : PySem.W.findIn K (.ref kTown) "__init__" = some (some (.ref f17)))
    (l17 : K.lookup f17 = some ⟨oc17, od17, .func (PySem.W.fnOf "__init__" "Town.__init__" (defArgs s_Town_init) (defBody s_Town_init) (defScope s_Town_init) .none kV17 dc17 pm17 an17 cd17 ct17), sl17⟩)
    (c17 : PySem.W.codeIn K cd17 "Town.__init__" = true)
    (k17 : PySem.W.keepIn K (.ref f17) = true)
    (i17 : PySem.W.isFn K (.ref f17) = true)
    (a18 : PySem.W.nsIn K mainGlobals "_law_made" = some (some (.ref f18)))
    (l18 : K.lookup f18 = some ⟨oc18, od18, .func (PySem.W.fnOf "_law_made" "_law_made" (defArgs s__law_made) (defBody s__law_made) (defScope s__law_made) .none kV18 dc18 pm18 an18 cd18 ct18), sl18⟩)
    (c18 : PySem.W.codeIn K cd18 "_law_made" = true)
    (k18 : PySem.W.keepIn K (.ref f18) = true)
    (a19 : PySem.W.nsIn K mainGlobals "_law_draw" = some (some (.ref f19)))
    (l19 : K.lookup f19 = some ⟨oc19, od19, .func (PySem.W.fnOf "_law_draw" "_law_draw" (defArgs s__law_draw) (defBody s__law_draw) (defScope s__law_draw) .none kV19 dc19 pm19 an19 cd19 ct19), sl19⟩)
    (c19 : PySem.W.codeIn K cd19 "_law_draw" = true)
    (k19 : PySem.W.keepIn K (.ref f19) = true)
    (a20 : PySem.W.nsIn K mainGlobals "_law_pick" = some (some (.ref f20)))
    (l20 : K.lookup f20 = some ⟨oc20, od20, .func (PySem.W.fnOf "_law_pick" "_law_pick" (defArgs s__law_pick) (defBody s__law_pick) (defScope s__law_pick) .none kV20 dc20 pm20 an20 cd20 ct20), sl20⟩)
    (c20 : PySem.W.codeIn K cd20 "_law_pick" = true)
    (k20 : PySem.W.keepIn K (.ref f20) = true)
    (a21 : PySem.W.nsIn K mainGlobals "_law_names" = some (some (.ref f21)))
    (l21 : K.lookup f21 = some ⟨oc21, od21, .func (PySem.W.fnOf "_law_names" "_law_names" (defArgs s__law_names) (defBody s__law_names) (defScope s__law_names) .none kV21 dc21 pm21 an21 cd21 ct21), sl21⟩)
    (c21 : PySem.W.codeIn K cd21 "_law_names" = true)
    (k21 : PySem.W.keepIn K (.ref f21) = true)
    (a22 : PySem.W.nsIn K mainGlobals "_law_model" = some (some (.ref f22)))
    (l22 : K.lookup f22 = some ⟨oc22, od22, .func (PySem.W.fnOf "_law_model" "_law_model" (defArgs s__law_model) (defBody s__law_model) (defScope s__law_model) .none kV22 dc22 pm22 an22 cd22 ct22), sl22⟩)
    (c22 : PySem.W.codeIn K cd22 "_law_model" = true)
    (k22 : PySem.W.keepIn K (.ref f22) = true)
    (a23 : PySem.W.nsIn K mainGlobals "_law_odds" = some (some (.ref f23)))
    (l23 : K.lookup f23 = some ⟨oc23, od23, .func (PySem.W.fnOf "_law_odds" "_law_odds" (defArgs s__law_odds) (defBody s__law_odds) (defScope s__law_odds) .none kV23 dc23 pm23 an23 cd23 ct23), sl23⟩)
    (c23 : PySem.W.codeIn K cd23 "_law_odds" = true)
    (k23 : PySem.W.keepIn K (.ref f23) = true)
    (a24 : PySem.W.nsIn K mainGlobals "_law_pool" = some (some (.ref f24)))
    (l24 : K.lookup f24 = some ⟨oc24, od24, .func (PySem.W.fnOf "_law_pool" "_law_pool" (defArgs s__law_pool) (defBody s__law_pool) (defScope s__law_pool) .none kV24 dc24 pm24 an24 cd24 ct24), sl24⟩)
    (c24 : PySem.W.codeIn K cd24 "_law_pool" = true)
    (k24 : PySem.W.keepIn K (.ref f24) = true)
    (a25 : PySem.W.findIn K (.ref kTown) "names" = some (some (.ref f25)))
    (l25 : K.lookup f25 = some ⟨oc25, od25, .func (PySem.W.fnOf "names" "Town.names" (defArgs s_Town_names) (defBody s_Town_names) (defScope s_Town_names) .none kV25 dc25 pm25 an25 cd25 ct25), sl25⟩)
    (c25 : PySem.W.codeIn K cd25 "Town.names" = true)
    (k25 : PySem.W.keepIn K (.ref f25) = true)
    (i25 : PySem.W.isFn K (.ref f25) = true)
    (a26 : PySem.W.nsIn K mainGlobals "events_of" = some (some (.ref f26)))
    (l26 : K.lookup f26 = some ⟨oc26, od26, .func (PySem.W.fnOf "events_of" "events_of" (defArgs s_events_of) (defBody s_events_of) (defScope s_events_of) .none kV26 dc26 pm26 an26 cd26 ct26), sl26⟩)
    (c26 : PySem.W.codeIn K cd26 "events_of" = true)
    (k26 : PySem.W.keepIn K (.ref f26) = true)
    (a27 : PySem.W.findIn K (.ref kTown) "__contains__" = some (some (.ref f27)))
    (l27 : K.lookup f27 = some ⟨oc27, od27, .func (PySem.W.fnOf "__contains__" "Town.__contains__" (defArgs s_Town_contains) (defBody s_Town_contains) (defScope s_Town_contains) .none kV27 dc27 pm27 an27 cd27 ct27), sl27⟩)
    (c27 : PySem.W.codeIn K cd27 "Town.__contains__" = true)
    (k27 : PySem.W.keepIn K (.ref f27) = true)
    (i27 : PySem.W.isFn K (.ref f27) = true)
    (a28 : PySem.W.nsIn K mainGlobals "is_units" = some (some (.ref f28)))
    (l28 : K.lookup f28 = some ⟨oc28, od28, .func (PySem.W.fnOf "is_units" "is_units" (defArgs s_is_units) (defBody s_is_units) (defScope s_is_units) .none kV28 dc28 pm28 an28 cd28 ct28), sl28⟩)
    (c28 : PySem.W.codeIn K cd28 "is_units" = true)
    (k28 : PySem.W.keepIn K (.ref f28) = true)
    (a29 : PySem.W.nsIn K mainGlobals "is_event" = some (some (.ref f29)))
    (l29 : K.lookup f29 = some ⟨oc29, od29, .func (PySem.W.fnOf "is_event" "is_event" (defArgs s_is_event) (defBody s_is_event) (defScope s_is_event) .none kV29 dc29 pm29 an29 cd29 ct29), sl29⟩)
    (c29 : PySem.W.codeIn K cd29 "is_event" = true)
    (k29 : PySem.W.keepIn K (.ref f29) = true)
    (a30 : PySem.W.nsIn K mainGlobals "law" = some (some (.ref f30)))
    (l30 : K.lookup f30 = some ⟨oc30, od30, .func (PySem.W.fnOf "law" "law" (defArgs s_law) (defBody s_law) (defScope s_law) .none kV30 dc30 pm30 an30 cd30 ct30), sl30⟩)
    (c30 : PySem.W.codeIn K cd30 "law" = true)
    (k30 : PySem.W.keepIn K (.ref f30) = true)
    (sp_cls : PySem.W.specialIn K (.builtin "object.__class__") "__get__" = some (some (.builtin "getset_descriptor.__get__")))
    (tk_cls : PySem.W.takesIn K (.builtin "object.__class__") = some true)
    (z_all : PySem.W.nsIn K mainGlobals "all" = some none)
    (z_bool : PySem.W.nsIn K mainGlobals "bool" = some none)
    (z_enumerate : PySem.W.nsIn K mainGlobals "enumerate" = some none)
    (z_int : PySem.W.nsIn K mainGlobals "int" = some none)
    (z_isinstance : PySem.W.nsIn K mainGlobals "isinstance" = some none)
    (z_len : PySem.W.nsIn K mainGlobals "len" = some none)
    (z_list : PySem.W.nsIn K mainGlobals "list" = some none)
    (z_max : PySem.W.nsIn K mainGlobals "max" = some none)
    (z_min : PySem.W.nsIn K mainGlobals "min" = some none)
    (z_range : PySem.W.nsIn K mainGlobals "range" = some none)
    (z_sorted : PySem.W.nsIn K mainGlobals "sorted" = some none)
    (z_str : PySem.W.nsIn K mainGlobals "str" = some none)
    (z_tuple : PySem.W.nsIn K mainGlobals "tuple" = some none)
    (c_LONGEST_NAME : PySem.W.nsIn K mainGlobals "LONGEST_NAME" = some (some (.int 8 tk_LONGEST_NAME)))
    (c_MOST_TILLS : PySem.W.nsIn K mainGlobals "MOST_TILLS" = some (some (.int 4 tk_MOST_TILLS)))
    (c_MOST_TOPS : PySem.W.nsIn K mainGlobals "MOST_TOPS" = some (some (.int 5 tk_MOST_TOPS)))
    (c_TILL_WORDS : PySem.W.nsIn K mainGlobals "TILL_WORDS" = some (some (.ref w_TILL_WORDS)))
    (u_TILL_WORDS : K.lookup w_TILL_WORDS = some ⟨.type "tuple", dd_TILL_WORDS, .seq #[.str "cut" tk_TILL_WORDS0, .str "line" tk_TILL_WORDS1, .str "again" tk_TILL_WORDS2] n_TILL_WORDS, sl_TILL_WORDS⟩)
    (c_TOP_LIMIT : PySem.W.nsIn K mainGlobals "TOP_LIMIT" = some (some (.int 9 tk_TOP_LIMIT)))
    (c_TOP_MONEY : PySem.W.nsIn K mainGlobals "TOP_MONEY" = some (some (.int 9 tk_TOP_MONEY)))
    (c_TOP_REMEMBERED : PySem.W.nsIn K mainGlobals "TOP_REMEMBERED" = some (some (.int 9 tk_TOP_REMEMBERED)))
    (c_UNITS : PySem.W.nsIn K mainGlobals "UNITS" = some (some (.ref w_UNITS)))
    (u_UNITS : K.lookup w_UNITS = some ⟨.type "tuple", dd_UNITS, .seq #[.int 1 tk_UNITS0, .int 2 tk_UNITS1] n_UNITS, sl_UNITS⟩)
    : ∃ fd : FuncData, (∀ (s : Shared) (v : Value), BindsTo s fd ⟨[v], []⟩ [("_law_script", v)]) ∧ ∀ base : Heap, K.In base → base.Ns mainGlobals mg → FnOk l.prog w K mg base CX0 8 fa fd ["_law_script"] (sp_law K) := by
  have e := hfa.symm.trans (PySem.W.mg_of X G a30)
  cases e
  have F1 := fun_mk (st := s__law_words_of) l1 c1 k1
  have B1 := F1.binds (ps := ["_law_model_here"]) fun _ _ _ _ _ _ us hl => match us, hl with | [_], _ => rfl
  have F2 := fun_mk (st := s__law_all) l2 c2 k2
  have B2 := F2.binds (ps := ["_law_model_here"]) fun _ _ _ _ _ _ us hl => match us, hl with | [_], _ => rfl
  have F3 := fun_mk (st := s_is_integer) l3 c3 k3
  have B3 := F3.binds (ps := ["value"]) fun _ _ _ _ _ _ us hl => match us, hl with | [_], _ => rfl
  have F4 := fun_mk (st := s_is_integer_to) l4 c4 k4
  have B4 := F4.binds (ps := ["value", "top"]) fun _ _ _ _ _ _ us hl => match us, hl with | [_, _], _ => rfl
  have F5 := fun_mk (st := s_is_limit) l5 c5 k5
  have B5 := F5.binds (ps := ["value"]) fun _ _ _ _ _ _ us hl => match us, hl with | [_], _ => rfl
  have F6 := fun_mk (st := s_is_name) l6 c6 k6
  have B6 := F6.binds (ps := ["value"]) fun _ _ _ _ _ _ us hl => match us, hl with | [_], _ => rfl
  have F7 := fun_mk (st := s_is_truth) l7 c7 k7
  have B7 := F7.binds (ps := ["value"]) fun _ _ _ _ _ _ us hl => match us, hl with | [_], _ => rfl
  have F8 := fun_mk (st := s_Till_init) l8 c8 k8
  have F9 := fun_mk (st := s_ascending_links) l9 c9 k9
  have B9 := F9.binds (ps := ["names", "links"]) fun _ _ _ _ _ _ us hl => match us, hl with | [_, _], _ => rfl
  have F10 := fun_mk (st := s_is_link) l10 c10 k10
  have B10 := F10.binds (ps := ["names", "value"]) fun _ _ _ _ _ _ us hl => match us, hl with | [_, _], _ => rfl
  have F11 := fun_mk (st := s_is_list) l11 c11 k11
  have B11 := F11.binds (ps := ["value"]) fun _ _ _ _ _ _ us hl => match us, hl with | [_], _ => rfl
  have F12 := fun_mk (st := s_check_links) l12 c12 k12
  have B12 := F12.binds (ps := ["names", "links"]) fun _ _ _ _ _ _ us hl => match us, hl with | [_, _], _ => rfl
  have F13 := fun_mk (st := s_is_word) l13 c13 k13
  have B13 := F13.binds (ps := ["value", "word"]) fun _ _ _ _ _ _ us hl => match us, hl with | [_, _], _ => rfl
  have F14 := fun_mk (st := s_is_memory) l14 c14 k14
  have B14 := F14.binds (ps := ["value"]) fun _ _ _ _ _ _ us hl => match us, hl with | [_], _ => rfl
  have F15 := fun_mk (st := s_check_parts) l15 c15 k15
  have B15 := F15.binds (ps := ["money", "memory", "tops", "numbered"]) fun _ _ _ _ _ _ us hl => match us, hl with | [_, _, _, _], _ => rfl
  have F16 := fun_mk (st := s_check_tills) l16 c16 k16
  have B16 := F16.binds (ps := ["tills"]) fun _ _ _ _ _ _ us hl => match us, hl with | [_], _ => rfl
  have F17 := fun_mk (st := s_Town_init) l17 c17 k17
  have F18 := fun_mk (st := s__law_made) l18 c18 k18
  have B18 := F18.binds (ps := ["_law_model_here"]) fun _ _ _ _ _ _ us hl => match us, hl with | [_], _ => rfl
  have F19 := fun_mk (st := s__law_draw) l19 c19 k19
  have B19 := F19.binds (ps := ["_law_pool_here", "_law_many"]) fun _ _ _ _ _ _ us hl => match us, hl with | [_, _], _ => rfl
  have F20 := fun_mk (st := s__law_pick) l20 c20 k20
  have B20 := F20.binds (ps := ["_law_pool_here", "_law_row"]) fun _ _ _ _ _ _ us hl => match us, hl with | [_, _], _ => rfl
  have F21 := fun_mk (st := s__law_names) l21 c21 k21
  have B21 := F21.binds (ps := ["_law_pool_here", "_law_count"]) fun _ _ _ _ _ _ us hl => match us, hl with | [_, _], _ => rfl
  have F22 := fun_mk (st := s__law_model) l22 c22 k22
  have B22 := F22.binds (ps := ["_law_pool_here", "_law_most_so"]) fun _ _ _ _ _ _ us hl => match us, hl with | [_, _], _ => rfl
  have F23 := fun_mk (st := s__law_odds) l23 c23 k23
  have B23 := F23.binds (ps := ["_law_name"]) fun _ _ _ _ _ _ us hl => match us, hl with | [_], _ => rfl
  have F24 := fun_mk (st := s__law_pool) l24 c24 k24
  have B24 := F24.binds (ps := ["_law_script", "_law_k"]) fun _ _ _ _ _ _ us hl => match us, hl with | [_, _], _ => rfl
  have F25 := fun_mk (st := s_Town_names) l25 c25 k25
  have B25 := F25.binds (ps := ["self"]) fun _ _ _ _ _ _ us hl => match us, hl with | [_], _ => rfl
  have F26 := fun_mk (st := s_events_of) l26 c26 k26
  have B26 := F26.binds (ps := ["town"]) fun _ _ _ _ _ _ us hl => match us, hl with | [_], _ => rfl
  have F27 := fun_mk (st := s_Town_contains) l27 c27 k27
  have B27 := F27.binds (ps := ["self", "x"]) fun _ _ _ _ _ _ us hl => match us, hl with | [_, _], _ => rfl
  have F28 := fun_mk (st := s_is_units) l28 c28 k28
  have B28 := F28.binds (ps := ["value"]) fun _ _ _ _ _ _ us hl => match us, hl with | [_], _ => rfl
  have F29 := fun_mk (st := s_is_event) l29 c29 k29
  have B29 := F29.binds (ps := ["town", "value"]) fun _ _ _ _ _ _ us hl => match us, hl with | [_, _], _ => rfl
  have F30 := fun_mk (st := s_law) l30 c30 k30
  have B30 := F30.binds (ps := ["_law_script"]) fun _ _ _ _ _ _ us hl => match us, hl with | [_], _ => rfl
  let T : Txt K mg := { a__law_words_of := f1, d__law_words_of := _, F__law_words_of := F1, b__law_words_of := B1, g__law_words_of := PySem.W.mg_of X G a1, k__law_words_of := k1, a__law_all := f2, d__law_all := _, F__law_all := F2, b__law_all := B2, g__law_all := PySem.W.mg_of X G a2, k__law_all := k2, a_is_integer := f3, d_is_integer := _, F_is_integer := F3, b_is_integer := B3, g_is_integer := PySem.W.mg_of X G a3, k_is_integer := k3, a_is_integer_to := f4, d_is_integer_to := _, F_is_integer_to := F4, b_is_integer_to := B4, g_is_integer_to := PySem.W.mg_of X G a4, k_is_integer_to := k4, a_is_limit := f5, d_is_limit := _, F_is_limit := F5, b_is_limit := B5, g_is_limit := PySem.W.mg_of X G a5, k_is_limit := k5, a_is_name := f6, d_is_name := _, F_is_name := F6, b_is_name := B6, g_is_name := PySem.W.mg_of X G a6, k_is_name := k6, a_is_truth := f7, d_is_truth := _, F_is_truth := F7, b_is_truth := B7, g_is_truth := PySem.W.mg_of X G a7, k_is_truth := k7, a_Till_init := f8, d_Till_init := _, F_Till_init := F8, mk_Till := ⟨m_Till, a8, i8, q_Till⟩, kb_Till_init_2_heeds := ⟨fun s us ws _ l1 l2 => match us, ws, l1, l2 with | [_, _, _], [_], _, _ => .of_eq rfl, fun r1 r2 => r1.append r2⟩, a_ascending_links := f9, d_ascending_links := _, F_ascending_links := F9, b_ascending_links := B9, g_ascending_links := PySem.W.mg_of X G a9, k_ascending_links := k9, a_is_link := f10, d_is_link := _, F_is_link := F10, b_is_link := B10, g_is_link := PySem.W.mg_of X G a10, k_is_link := k10, a_is_list := f11, d_is_list := _, F_is_list := F11, b_is_list := B11, g_is_list := PySem.W.mg_of X G a11, k_is_list := k11, a_check_links := f12, d_check_links := _, F_check_links := F12, b_check_links := B12, g_check_links := PySem.W.mg_of X G a12, k_check_links := k12, a_is_word := f13, d_is_word := _, F_is_word := F13, b_is_word := B13, g_is_word := PySem.W.mg_of X G a13, k_is_word := k13, a_is_memory := f14, d_is_memory := _, F_is_memory := F14, b_is_memory := B14, g_is_memory := PySem.W.mg_of X G a14, k_is_memory := k14, a_check_parts := f15, d_check_parts := _, F_check_parts := F15, b_check_parts := B15, g_check_parts := PySem.W.mg_of X G a15, k_check_parts := k15, a_check_tills := f16, d_check_tills := _, F_check_tills := F16, b_check_tills := B16, g_check_tills := PySem.W.mg_of X G a16, k_check_tills := k16, a_Town_init := f17, d_Town_init := _, F_Town_init := F17, mk_Town := ⟨m_Town, a17, i17, q_Town⟩, kb_Town_init_1_links_money_memory_tops_numbered := ⟨fun s us ws _ l1 l2 => match us, ws, l1, l2 with | [_, _], [_, _, _, _, _], _, _ => .of_eq rfl, fun r1 r2 => r1.append r2⟩, a__law_made := f18, d__law_made := _, F__law_made := F18, b__law_made := B18, g__law_made := PySem.W.mg_of X G a18, k__law_made := k18, a__law_draw := f19, d__law_draw := _, F__law_draw := F19, b__law_draw := B19, g__law_draw := PySem.W.mg_of X G a19, k__law_draw := k19, a__law_pick := f20, d__law_pick := _, F__law_pick := F20, b__law_pick := B20, g__law_pick := PySem.W.mg_of X G a20, k__law_pick := k20, a__law_names := f21, d__law_names := _, F__law_names := F21, b__law_names := B21, g__law_names := PySem.W.mg_of X G a21, k__law_names := k21, a__law_model := f22, d__law_model := _, F__law_model := F22, b__law_model := B22, g__law_model := PySem.W.mg_of X G a22, k__law_model := k22, a__law_odds := f23, d__law_odds := _, F__law_odds := F23, b__law_odds := B23, g__law_odds := PySem.W.mg_of X G a23, k__law_odds := k23, a__law_pool := f24, d__law_pool := _, F__law_pool := F24, b__law_pool := B24, g__law_pool := PySem.W.mg_of X G a24, k__law_pool := k24, a_Town_names := f25, d_Town_names := _, F_Town_names := F25, b_Town_names := B25, m_Town_names := ⟨a25, i25, k25⟩, a_events_of := f26, d_events_of := _, F_events_of := F26, b_events_of := B26, g_events_of := PySem.W.mg_of X G a26, k_events_of := k26, a_Town_contains := f27, d_Town_contains := _, F_Town_contains := F27, b_Town_contains := B27, m_Town_contains := ⟨a27, i27, k27⟩, a_is_units := f28, d_is_units := _, F_is_units := F28, b_is_units := B28, g_is_units := PySem.W.mg_of X G a28, k_is_units := k28, a_is_event := f29, d_is_event := _, F_is_event := F29, b_is_event := B29, g_is_event := PySem.W.mg_of X G a29, k_is_event := k29, a_law := fa, d_law := _, F_law := F30, b_law := B30, g_law := PySem.W.mg_of X G a30, k_law := k30, c_Till := kTill, g_Till := PySem.W.mg_of X G p_Till, cl_Till := ⟨pg_Till, hd_Till, po_Till, sa_Till⟩, n_Till_name := n_Till_name, n_Till_limit := n_Till_limit, n_Till_heeds := n_Till_heeds, ic_Till := ic_Till, mr_Till := mr_Till, ki_Till := Kx.kit_self, c_Town := kTown, g_Town := PySem.W.mg_of X G p_Town, cl_Town := ⟨pg_Town, hd_Town, po_Town, sa_Town⟩, n_Town__tills := n_Town__tills, n_Town__by_name := n_Town__by_name, n_Town_links := n_Town_links, n_Town_money := n_Town_money, n_Town_memory := n_Town_memory, n_Town_tops := n_Town_tops, n_Town_numbered := n_Town_numbered, sp_cls := sp_cls, tk_cls := tk_cls, no_all := PySem.W.mg_none_of X G z_all, no_bool := PySem.W.mg_none_of X G z_bool, no_enumerate := PySem.W.mg_none_of X G z_enumerate, no_int := PySem.W.mg_none_of X G z_int, no_isinstance := PySem.W.mg_none_of X G z_isinstance, no_len := PySem.W.mg_none_of X G z_len, no_list := PySem.W.mg_none_of X G z_list, no_max := PySem.W.mg_none_of X G z_max, no_min := PySem.W.mg_none_of X G z_min, no_range := PySem.W.mg_none_of X G z_range, no_sorted := PySem.W.mg_none_of X G z_sorted, no_str := PySem.W.mg_none_of X G z_str, no_tuple := PySem.W.mg_none_of X G z_tuple, t_LONGEST_NAME := tk_LONGEST_NAME, g_LONGEST_NAME := PySem.W.mg_of X G c_LONGEST_NAME, t_MOST_TILLS := tk_MOST_TILLS, g_MOST_TILLS := PySem.W.mg_of X G c_MOST_TILLS, t_MOST_TOPS := tk_MOST_TOPS, g_MOST_TOPS := PySem.W.mg_of X G c_MOST_TOPS, w_TILL_WORDS := w_TILL_WORDS, g_TILL_WORDS := PySem.W.mg_of X G c_TILL_WORDS, q_TILL_WORDS := ⟨_, _, _, u_TILL_WORDS, rfl, rfl, (show 3 ≤ sizeLine by decide), (.cons ⟨_, rfl⟩ (.cons ⟨_, rfl⟩ (.cons ⟨_, rfl⟩ .nil)))⟩, t_TOP_LIMIT := tk_TOP_LIMIT, g_TOP_LIMIT := PySem.W.mg_of X G c_TOP_LIMIT, t_TOP_MONEY := tk_TOP_MONEY, g_TOP_MONEY := PySem.W.mg_of X G c_TOP_MONEY, t_TOP_REMEMBERED := tk_TOP_REMEMBERED, g_TOP_REMEMBERED := PySem.W.mg_of X G c_TOP_REMEMBERED, w_UNITS := w_UNITS, g_UNITS := PySem.W.mg_of X G c_UNITS, q_UNITS := ⟨_, _, _, u_UNITS, rfl, rfl, (show 2 ≤ sizeLine by decide), (.cons ⟨_, rfl⟩ (.cons ⟨_, rfl⟩ .nil))⟩ }
  exact ⟨T.d_law, fun s v => .of_eq rfl, fun base _ _ => ok_law T⟩
theorem walk {l : PySem.W.OpenLaw} {q : Program} {loose : List Str} {XP : (Str → Option Value) → Heap → Prop} {YP : World → Heap → Prop} {d : DefRec} {K : Params → PySem.W.Frag} (hn : l.most = some 63) (hdf : d.params.defaults = [])
    (hY : ∀ (w : World) (h : Heap), YP w h → (K w.params).In h)
    (F : ∀ (w : World) (mg : Str → Option Value) (fa : Addr) (h : Heap), (K w.params).In h → h.Ns mainGlobals mg → mg d.name = some (.ref fa) →
      ∃ fd : FuncData, (∀ (s : Shared) (u : Value), BindsTo s fd ⟨[u], []⟩ [("_law_script", u)]) ∧ ∀ base : Heap, (K w.params).In base → base.Ns mainGlobals mg → FnOk l.prog w (K w.params) mg base CX0 8 fa fd ["_law_script"] (sp_law (K w.params))) :
    PySem.W.WalkO q loose XP YP l.row.toRowW d [] (fun f vs => PySem.call f vs) :=
  L2.walk_of (n := 63) (k := 8) (x := "_law_script") (CX := fun _ => CX0) (sp := fun w => sp_law (K w.params)) hn (by decide) hdf ⟨rfl, by decide, by decide⟩ hY F (fun _ _ a ns hl _ hS => ⟨a, ns, rfl, hS, hl, fun _ => rfl⟩) fun _ _ _ _ _ z => z
end Toy
open PySem PySem.W PyProof.Rows
set_option maxRecDepth 100000 in
set_option maxHeartbeats 0 in
theorem PySem.Challenge.cw_cutofftills_k07_events_holds : PySem.Challenge.rw_cutofftills_k07_events.Holds := by
  w_on; o_law; k_head; (case hw => w_witness2)
  k_fill
  refine Toy.walk (l := PySem.Challenge.rw_cutofftills_k07_events) rfl rfl (fun w h Y => PySem.W.kIn_of Y) ?F
  case F =>
    intro w mg fa h KX G hmg
    refine' Toy.all_mk KX G hmg ?p_Town ?pg_Town ?hd_Town ?po_Town ?sa_Town ?m_Town ?q_Town ?n_Town__tills ?n_Town__by_name ?n_Town_links ?n_Town_money ?n_Town_memory ?n_Town_tops ?n_Town_numbered ?p_Till ?pg_Till ?hd_Till ?po_Till ?sa_Till ?m_Till ?q_Till ?n_Till_name ?n_Till_limit ?n_Till_heeds ?ic_Till ?mr_Till ?a1 ?l1 ?c1 ?k1 ?a2 ?l2 ?c2 ?k2 ?a3 ?l3 ?c3 ?k3 ?a4 ?l4 ?c4 ?k4 ?a5 ?l5 ?c5 ?k5 ?a6 ?l6 ?c6 ?k6 ?a7 ?l7 ?c7 ?k7 ?a8 ?l8 ?c8 ?k8 ?i8 ?a9 ?l9 ?c9 ?k9 ?a10 ?l10 ?c10 ?k10 ?a11 ?l11 ?c11 ?k11 ?a12 ?l12 ?c12 ?k12 ?a13 ?l13 ?c13 ?k13 ?a14 ?l14 ?c14 ?k14 ?a15 ?l15 ?c15 ?k15 ?a16 ?l16 ?c16 ?k16 ?a17 ?l17 ?c17 ?k17 ?i17 ?a18 ?l18 ?c18 ?k18 ?a19 ?l19 ?c19 ?k19 ?a20 ?l20 ?c20 ?k20 ?a21 ?l21 ?c21 ?k21 ?a22 ?l22 ?c22 ?k22 ?a23 ?l23 ?c23 ?k23 ?a24 ?l24 ?c24 ?k24 ?a25 ?l25 ?c25 ?k25 ?i25 ?a26 ?l26 ?c26 ?k26 ?a27 ?l27 ?c27 ?k27 ?i27 ?a28 ?l28 ?c28 ?k28 ?a29 ?l29 ?c29 ?k29 ?a30 ?l30 ?c30 ?k30 ?sp_cls ?tk_cls ?z_all ?z_bool ?z_enumerate ?z_int ?z_isinstance ?z_len ?z_list ?z_max ?z_min ?z_range ?z_sorted ?z_str ?z_tuple ?c_LONGEST_NAME ?c_MOST_TILLS ?c_MOST_TOPS ?c_TILL_WORDS ?u_TILL_WORDS ?c_TOP_LIMIT ?c_TOP_MONEY ?c_TOP_REMEMBERED ?c_UNITS ?u_UNITS
    (case p_Town => k_is)
    (case pg_Town => k_is)
    (case hd_Town => k_is)
    (case po_Town => k_is)
    (case sa_Town => k_is)
    (case m_Town => k_is)
    (case q_Town => k_is)
    (case n_Town__tills => k_is)
    (case n_Town__by_name => k_is)
    (case n_Town_links => k_is)
    (case n_Town_money => k_is)
    (case n_Town_memory => k_is)
    (case n_Town_tops => k_is)
    (case n_Town_numbered => k_is)
    (case p_Till => k_is)
    (case pg_Till => k_is)
    (case hd_Till => k_is)
    (case po_Till => k_is)
    (case sa_Till => k_is)
    (case m_Till => k_is)
    (case q_Till => k_is)
    (case n_Till_name => k_is)
    (case n_Till_limit => k_is)
    (case n_Till_heeds => k_is)
    (case ic_Till => k_is)
    (case mr_Till => k_is)
    (case a1 => k_is)
    (case l1 => k_is)
    (case c1 => k_is)
    (case k1 => k_is)
    (case a2 => k_is)
    (case l2 => k_is)
    (case c2 => k_is)
    (case k2 => k_is)
    (case a3 => k_is)
    (case l3 => k_is)
    (case c3 => k_is)
    (case k3 => k_is)
    (case a4 => k_is)
    (case l4 => k_is)
    (case c4 => k_is)
    (case k4 => k_is)
    (case a5 => k_is)
    (case l5 => k_is)
    (case c5 => k_is)
    (case k5 => k_is)
    (case a6 => k_is)
    (case l6 => k_is)
    (case c6 => k_is)
    (case k6 => k_is)
    (case a7 => k_is)
    (case l7 => k_is)
    (case c7 => k_is)
    (case k7 => k_is)
    (case a8 => k_is)
    (case l8 => k_is)
    (case c8 => k_is)
    (case k8 => k_is)
    (case i8 => k_is)
    (case a9 => k_is)
    (case l9 => k_is)
    (case c9 => k_is)
    (case k9 => k_is)
    (case a10 => k_is)
    (case l10 => k_is)
    (case c10 => k_is)
    (case k10 => k_is)
    (case a11 => k_is)
    (case l11 => k_is)
    (case c11 => k_is)
    (case k11 => k_is)
    (case a12 => k_is)
    (case l12 => k_is)
    (case c12 => k_is)
    (case k12 => k_is)
    (case a13 => k_is)
    (case l13 => k_is)
    (case c13 => k_is)
    (case k13 => k_is)
    (case a14 => k_is)
    (case l14 => k_is)
    (case c14 => k_is)
    (case k14 => k_is)
    (case a15 => k_is)
    (case l15 => k_is)
    (case c15 => k_is)
    (case k15 => k_is)
    (case a16 => k_is)
    (case l16 => k_is)
    (case c16 => k_is)
    (case k16 => k_is)
    (case a17 => k_is)
    (case l17 => k_is)
    (case c17 => k_is)
    (case k17 => k_is)
    (case i17 => k_is)
    (case a18 => k_is)
    (case l18 => k_is)
    (case c18 => k_is)
    (case k18 => k_is)
    (case a19 => k_is)
    (case l19 => k_is)
    (case c19 => k_is)
    (case k19 => k_is)
    (case a20 => k_is)
    (case l20 => k_is)
    (case c20 => k_is)
    (case k20 => k_is)
    (case a21 => k_is)
    (case l21 => k_is)
    (case c21 => k_is)
    (case k21 => k_is)
    (case a22 => k_is)
    (case l22 => k_is)
    (case c22 => k_is)
    (case k22 => k_is)
    (case a23 => k_is)
    (case l23 => k_is)
    (case c23 => k_is)
    (case k23 => k_is)
    (case a24 => k_is)
    (case l24 => k_is)
    (case c24 => k_is)
    (case k24 => k_is)
    (case a25 => k_is)
    (case l25 => k_is)
    (case c25 => k_is)
    (case k25 => k_is)
    (case i25 => k_is)
    (case a26 => k_is)
    (case l26 => k_is)
    (case c26 => k_is)
    (case k26 => k_is)
    (case a27 => k_is)
    (case l27 => k_is)
    (case c27 => k_is)
    (case k27 => k_is)
    (case i27 => k_is)
    (case a28 => k_is)
    (case l28 => k_is)
    (case c28 => k_is)
    (case k28 => k_is)
    (case a29 => k_is)
    (case l29 => k_is)
    (case c29 => k_is)
    (case k29 => k_is)
    (case a30 => k_is)
    (case l30 => k_is)
    (case c30 => k_is)
    (case k30 => k_is)
    (case sp_cls => k_is)
    (case tk_cls => k_is)
    (case z_all => k_is)
    (case z_bool => k_is)
    (case z_enumerate => k_is)
    (case z_int => k_is)
    (case z_isinstance => k_is)
    (case z_len => k_is)
    (case z_list => k_is)
    (case z_max => k_is)
    (case z_min => k_is)
    (case z_range => k_is)
    (case z_sorted => k_is)
    (case z_str => k_is)
    (case z_tuple => k_is)
    (case c_LONGEST_NAME => k_is)
    (case c_MOST_TILLS => k_is)
    (case c_MOST_TOPS => k_is)
    (case c_TILL_WORDS => k_is)
    (case u_TILL_WORDS => k_is)
    (case c_TOP_LIMIT => k_is)
    (case c_TOP_MONEY => k_is)
    (case c_TOP_REMEMBERED => k_is)
    (case c_UNITS => k_is)
    (case u_UNITS => k_is)
