import PyProof.Rows.All
import Wide.All
import OpenK.AllK
import Wide.FinOn
import HandS.ForMost
import HandS.IsInst
import HandS.Style
import HandS.Flow
import HandS.Codes
import HandS.Wide
import HandS.Walk
import PySem.Challenge.RW_cutofftills_k01_names_and_memories
set_option Elab.async false
set_option linter.all false
set_option maxRecDepth 100000
set_option maxHeartbeats 4000000
namespace Kx
open PySem PySem.Spec L2

/-! ### one reading at a time -/
section
variable {σ : St} {H : Hp} {v x y : V} {Q : VK} {i : Nat} {ta tb tc te : TE} {t u : TT} {D : Ends} {s1 s2 : TS}
theorem q_var (h : ∃ v, σ[i]? = some (some v) ∧ Q v H) : tVar i σ H Q := h
theorem q_c (q : Q v H) : tC v σ H Q := q
theorem q_op {r : R2} (h : ta σ H fun x H1 => tb σ H1 fun y H2 => r x y H2 Q) : tOp r ta tb σ H Q := h
theorem q_un {r : V → Hp → VK → Prop} (h : ta σ H fun x H1 => r x H1 Q) : tUn r ta σ H Q := h
theorem q_cb {r : List V → Hp → VK → Prop} {tr : TA} (h : tr σ H fun xs H1 => r xs H1 Q) : tCB r tr σ H Q := h
theorem q_test {Qb : Bool → Hp → Prop} (h : te σ H fun x H1 => ∃ k, x = .bl k ∧ Qb k H1) : tTest te σ H Qb := h
theorem q_B {Qb : Bool → Hp → Prop} (h : te σ H fun x H1 => ∃ k, x = .bl k ∧ Qb k H1) : tB te σ H Qb := h
theorem q_bl {b : Bool} {Qb : Bool → Hp → Prop} (q : Qb b H) : ∃ k, V.bl b = .bl k ∧ Qb k H := ⟨b, rfl, q⟩
theorem q_blI {b : Bool} {A : Bool → Prop} (q : A b) : ∃ k, V.bl b = .bl k ∧ A k := ⟨b, rfl, q⟩
theorem q_and {Qb : Bool → Hp → Prop} (h : t σ H fun c H1 => if c = true then u σ H1 Qb else Qb false H1) : tAnd t u σ H Qb := h
theorem q_or {Qb : Bool → Hp → Prop} (h : t σ H fun c H1 => if c = true then Qb true H1 else u σ H1 Qb) : tOr t u σ H Qb := h
theorem q_not {Qb : Bool → Hp → Prop} (h : t σ H fun c H1 => Qb (!c) H1) : tNot t σ H Qb := h
theorem q_andV (h : ta σ H fun x H1 => ∃ c, x = .bl c ∧ if c = true then tb σ H1 Q else Q (.bl false) H1) : tAndV ta tb σ H Q := h
theorem q_orV (h : ta σ H fun x H1 => ∃ c, x = .bl c ∧ if c = true then Q (.bl true) H1 else tb σ H1 Q) : tOrV ta tb σ H Q := h
theorem q_notV (h : ta σ H fun x H1 => ∃ c, x = .bl c ∧ Q (.bl (!c)) H1) : tNotV ta σ H Q := h
theorem q_if (h : t σ H fun c H1 => if c = true then ta σ H1 Q else tb σ H1 Q) : tIf t ta tb σ H Q := h
theorem q_chain {r r' : R2} (h : ta σ H fun x H1 => tb σ H1 fun y H2 => r x y H2 fun z H3 => ∃ k, z = .bl k ∧ (if k = true then tc σ H3 fun w' H4 => r' y w' H4 Q else Q (.bl false) H3)) : tChain r r' ta tb tc σ H Q := h
theorem q_call {sp : Sp} {dvs : List V} {E : XK} {tr : TA} (h : tr σ H fun vs H1 => sp (vs ++ dvs) H1 Q E) : tCall sp dvs E tr σ H Q := h
theorem q_nil {Qa : List V → Hp → Prop} (q : Qa [] H) : tNil σ H Qa := q
theorem q_cons {tr : TA} {Qa : List V → Hp → Prop} (h : te σ H fun x H1 => tr σ H1 fun xs H2 => Qa (x :: xs) H2) : tCons te tr σ H Qa := h
theorem q_tup {tr : TA} (h : tr σ H fun xs H1 => xs.length ≤ sizeLine ∧ ∀ p, H1 p = none → Q (.ref p) (upd H1 p (.tup xs))) : tTup tr σ H Q := h
theorem q_lst {tr : TA} (h : tr σ H fun xs H1 => xs.length ≤ sizeLine ∧ ∀ p, H1 p = none → Q (.ref p) (upd H1 p (.lst xs))) : tLst tr σ H Q := h
theorem q_sl {r : V → Option Int → Option Int → Hp → VK → Prop} {tl th : TO} (h : te σ H fun x H1 => tl σ H1 fun l H2 => th σ H2 fun u H3 => r x l u H3 Q) : tSl r te tl th σ H Q := h
theorem q_noPart {Qo : Option Int → Hp → Prop} (q : Qo none H) : tNoPart σ H Qo := q
theorem q_part {Qo : Option Int → Hp → Prop} (h : te σ H fun x H1 => ∃ i, x = .int i ∧ Qo (some i) H1) : tPart te σ H Qo := h
theorem q_int {i : Int} {A : Int → Prop} (q : A i) : ∃ k, V.int i = .int k ∧ A k := ⟨i, rfl, q⟩
theorem q_yes {Qb : Bool → Hp → Prop} (q : Qb true H) : tYes σ H Qb := q
theorem q_seq (h : s1 { D with nx := s2 D } σ H) : tSeq s1 s2 D σ H := h
theorem q_next (h : D.nx σ H) : tNext D σ H := h
theorem q_asgN (h : te σ H fun x H1 => D.nx (σ.set i (some x)) H1) : tAsg te (gName i) D σ H := h
theorem q_asg {g : TG} (h : te σ H fun x H1 => g x σ H1 D.nx) : tAsg te g D σ H := h
theorem q_ret (h : te σ H D.rt) : tRet te D σ H := h
theorem q_drop (h : te σ H fun _ H1 => D.nx σ H1) : tDrop te D σ H := h
theorem q_ifS {c : TT} (h : c σ H fun b H1 => if b = true then s1 D σ H1 else s2 D σ H1) : tIfS c s1 s2 D σ H := h
theorem q_par {j : Nat} {tr : TA} (h : tr σ H fun vs H1 => ∃ v w, vs = [v, w] ∧ D.nx ((σ.set i (some v)).set j (some w)) H1) : tPar i j tr D σ H := h
theorem q_two {a b : V} {A : V → V → Prop} (q : A a b) : ∃ v w, [a, b] = [v, w] ∧ A v w := ⟨a, b, rfl, q⟩
theorem q_I0 {g : Int → Int → V} {i j : Int} (q : Q (g i j) H) : rI0 g (.int i) (.int j) H Q := ⟨i, j, rfl, rfl, q⟩
theorem q_I {C : Int → Int → Prop} {g : Int → Int → V} {i j : Int} (hc : C i j) (q : Q (g i j) H) : rI C g (.int i) (.int j) H Q := ⟨i, j, rfl, rfl, hc, q⟩
theorem q_U {g : Int → V} {i : Int} (q : Q (g i) H) : rU g (.int i) H Q := ⟨i, rfl, q⟩
theorem q_eq (h : scal x y = true) (q : Q (.bl (decide (x = y))) H) : rEq x y H Q := ⟨h, q⟩
theorem q_ne (h : scal x y = true) (q : Q (.bl (!decide (x = y))) H) : rNe x y H Q := ⟨h, q⟩
theorem q_isB {a b : Bool} (q : Q (.bl (decide (a = b))) H) : rIsB (.bl a) (.bl b) H Q := ⟨a, b, rfl, rfl, q⟩
theorem q_notB {a b : Bool} (q : Q (.bl (!decide (a = b))) H) : rNotB (.bl a) (.bl b) H Q := ⟨a, b, rfl, rfl, q⟩
end
/-! ### tests -/
theorem i_dec {p A B : Prop} [Decidable p] (h1 : p → A) (h2 : ¬ p → B) : if decide p = true then A else B := by
  by_cases h : p
  · rw [if_pos (decide_eq_true h)]; exact h1 h
  · rw [if_neg (by rw [decide_eq_false h]; exact Bool.false_ne_true)]; exact h2 h
theorem i_ndec {p A B : Prop} [Decidable p] (h1 : ¬ p → A) (h2 : p → B) : if (!decide p) = true then A else B := by
  by_cases h : p
  · rw [if_neg (by rw [decide_eq_true h]; exact Bool.false_ne_true)]; exact h2 h
  · rw [if_pos (by rw [decide_eq_false h]; rfl)]; exact h1 h
theorem i_b {b : Bool} {A B : Prop} (h1 : b = true → A) (h2 : b = false → B) : if b = true then A else B := by
  cases b
  · exact iteF (h2 rfl)
  · exact iteT (h1 rfl)
theorem i_yes {b : Bool} {A B : Prop} (h : b = true) (q : A) : if b = true then A else B := by rw [if_pos h]; exact q
theorem i_no {b : Bool} {A B : Prop} (h : b = false) (q : B) : if b = true then A else B := by rw [if_neg (by rw [h]; exact Bool.false_ne_true)]; exact q
theorem i_yesD {p A B : Prop} [Decidable p] (h : p) (q : A) : if decide p = true then A else B := i_yes (decide_eq_true h) q
theorem i_noD {p A B : Prop} [Decidable p] (h : ¬ p) (q : B) : if decide p = true then A else B := i_no (decide_eq_false h) q

/-! ### values of any kind -/
/-- what is looked at by isinstance: the kinds that laws hand in -/
inductive Any (H : Hp) : V → Prop
  | non : Any H .non
  | bl (b : Bool) : Any H (.bl b)
  | int (i : Int) : Any H (.int i)
  | str (s : Str) : Any H (.str s)
  | lst {a : Addr} {xs : List V} (h : H a = some (.lst xs)) : Any H (.ref a)
  | tup {a : Addr} {xs : List V} (h : H a = some (.tup xs)) : Any H (.ref a)
  | dK {a : Addr} {kvs : List (Key × V)} (h : H a = some (.dK kvs)) : Any H (.ref a)
/-- the name of its type -/
def kindOf (H : Hp) : V → String
  | .non => "NoneType"
  | .bl _ => "bool"
  | .int _ => "int"
  | .str _ => "str"
  | .ref a => match H a with
    | some (.lst _) => "list"
    | some (.tup _) => "tuple"
    | some (.dK _) => "dict"
    | _ => "?"
  | _ => "?"
theorem Any.ty {K : PySem.W.Frag} {H : Hp} {x : V} (h : Any H x) : TyX K H x (.type (kindOf H x)) := by
  cases h with
  | non => exact .base .non
  | bl b => exact .base (.bl b)
  | int i => exact .base (.int i)
  | str s => exact .base (.str s)
  | lst h => simp only [kindOf, h]; exact .base (.lst h)
  | tup h => simp only [kindOf, h]; exact .base (.tup h)
  | dK h => simp only [kindOf, h]; exact .base (.dK h)
theorem Any.mem {H : Hp} {x : V} (h : Any H x) : kindOf H x ∈ ["NoneType", "bool", "int", "str", "list", "tuple", "dict"] := by
  cases h with
  | non => simp [kindOf]
  | bl b => simp [kindOf]
  | int i => simp [kindOf]
  | str s => simp [kindOf]
  | lst h => simp [kindOf, h]
  | tup h => simp [kindOf, h]
  | dK h => simp [kindOf, h]
theorem kit_int : ∀ a ∈ ["NoneType", "bool", "int", "str", "list", "tuple", "dict"], kitB a "int" = some (a == "int" || a == "bool") := by decide +kernel
theorem kit_bool : ∀ a ∈ ["NoneType", "bool", "int", "str", "list", "tuple", "dict"], kitB a "bool" = some (a == "bool") := by decide +kernel
theorem kit_str : ∀ a ∈ ["NoneType", "bool", "int", "str", "list", "tuple", "dict"], kitB a "str" = some (a == "str") := by decide +kernel
theorem kit_tuple : ∀ a ∈ ["NoneType", "bool", "int", "str", "list", "tuple", "dict"], kitB a "tuple" = some (a == "tuple") := by decide +kernel
theorem kit_list : ∀ a ∈ ["NoneType", "bool", "int", "str", "list", "tuple", "dict"], kitB a "list" = some (a == "list") := by decide +kernel
section
variable {K : PySem.W.Frag} {H : Hp} {x : V} {Q : VK}
theorem q_isInt (h : Any H x) (q : Q (.bl (kindOf H x == "int" || kindOf H x == "bool")) H) : rIsi K [x, .ty "int"] H Q := ⟨x, .ty "int", _, _, _, rfl, .ty "int", h.ty, kit_ty (kit_int _ h.mem), q⟩
theorem q_isBool (h : Any H x) (q : Q (.bl (kindOf H x == "bool")) H) : rIsi K [x, .ty "bool"] H Q := ⟨x, .ty "bool", _, _, _, rfl, .ty "bool", h.ty, kit_ty (kit_bool _ h.mem), q⟩
theorem q_isStr (h : Any H x) (q : Q (.bl (kindOf H x == "str")) H) : rIsi K [x, .ty "str"] H Q := ⟨x, .ty "str", _, _, _, rfl, .ty "str", h.ty, kit_ty (kit_str _ h.mem), q⟩
theorem q_isTuple (h : Any H x) (q : Q (.bl (kindOf H x == "tuple")) H) : rIsi K [x, .ty "tuple"] H Q := ⟨x, .ty "tuple", _, _, _, rfl, .ty "tuple", h.ty, kit_ty (kit_tuple _ h.mem), q⟩
end
def isInt : V → Bool
  | .int _ => true
  | _ => false
def isIntTo (t : Int) : V → Bool
  | .int i => decide (0 ≤ i) && decide (i ≤ t)
  | _ => false
def isWordV (w : Str) (x : V) : Bool := decide (x = .str w)
/-- one to eight letters from a to z -/
def isNameS (s : Str) : Bool := decide (1 ≤ s.length) && decide (s.length ≤ 8) && s.cps.toList.all fun c => decide (97 ≤ c) && decide (c ≤ 122)
def isNameV : V → Bool
  | .str s => isNameS s
  | _ => false
theorem Any.refl_nt {H : Hp} {x : V} (h : Any H x) : (∃ s, x = .str s) ∨ (∀ s, x ≠ .str s) := by
  cases h <;> first | exact .inl ⟨_, rfl⟩ | exact .inr (fun _ e => nomatch e)

theorem isInt_eq {H : Hp} {x : V} (h : Any H x) : isInt x = ((kindOf H x == "int" || kindOf H x == "bool") && !(kindOf H x == "bool")) := by
  cases h with
  | non => simp [isInt, kindOf]
  | bl b => simp [isInt, kindOf]
  | int i => simp [isInt, kindOf]
  | str s => simp [isInt, kindOf]
  | lst h => simp [isInt, kindOf, h]
  | tup h => simp [isInt, kindOf, h]
  | dK h => simp [isInt, kindOf, h]
theorem isInt_true {x : V} (h : isInt x = true) : ∃ i, x = .int i := by
  cases x <;> first | exact ⟨_, rfl⟩ | (exact nomatch h)
theorem isIntTo_not {x : V} {t : Int} (h : isInt x = false) : isIntTo t x = false := by
  cases x <;> first | rfl | (exact nomatch h)
theorem kind_str {H : Hp} {x : V} (h : Any H x) : (kindOf H x == "str") = true → ∃ s, x = .str s := by
  cases h with
  | str s => exact fun _ => ⟨s, rfl⟩
  | non => exact fun h => absurd h (by simp [kindOf])
  | bl b => exact fun h => absurd h (by simp [kindOf])
  | int i => exact fun h => absurd h (by simp [kindOf])
  | lst h => simp [kindOf, h]
  | tup h => simp [kindOf, h]
  | dK h => simp [kindOf, h]
theorem kind_nstr {H : Hp} {x : V} : (kindOf H x == "str") = false → ∀ s, x ≠ .str s := by
  rintro h s rfl
  exact absurd h (by simp [kindOf])
theorem kind_tup {H : Hp} {x : V} (h : Any H x) : (kindOf H x == "tuple") = true → ∃ a xs, x = .ref a ∧ H a = some (.tup xs) := by
  cases h with
  | tup h => exact fun _ => ⟨_, _, rfl, h⟩
  | str s => exact fun h => absurd h (by simp [kindOf])
  | non => exact fun h => absurd h (by simp [kindOf])
  | bl b => exact fun h => absurd h (by simp [kindOf])
  | int i => exact fun h => absurd h (by simp [kindOf])
  | lst h => simp [kindOf, h]
  | dK h => simp [kindOf, h]
theorem nword_of {w : Str} {x : V} (h : ∀ s, x ≠ .str s) : isWordV w x = false := decide_eq_false (h w)
theorem nname_of {x : V} (h : ∀ s, x ≠ .str s) : isNameV x = false := by
  cases x <;> first | rfl | (exact absurd rfl (h _))

/-! ### comprehensions whose elements store nothing -/
theorem wipe1 (σ : L2.St) (j : Nat) (x : Option V) : wipe ((wipe σ [j]).set j x) [j] = wipe σ [j] := by
  show (((σ.set j none).set j x).set j none) = σ.set j none
  rw [List.set_set, List.set_set]
theorem lc_map {J : It} {n : Nat} {G : Hp → Prop} {Y : Nat → Hp → V → Hp → Prop} (w : Walk J n G Y) {j : Nat} {te : TE} {σ : L2.St} {H1 : Hp} {D : Addr} {Qd : Hp → Prop} (xs : List V) (f : V → V) (hn : n = xs.length) (hN : n < sizeLine)
    (hG : ∀ o, G (upd H1 D o)) (hY : ∀ i H x H', Y i H x H' → H' = H ∧ xs[i]? = some x)
    (he : ∀ (i : Nat) (x : V) (o : HO) (Q : VK), xs[i]? = some x → Q (f x) (upd H1 D o) → te ((wipe σ [j]).set j (some x)) (upd H1 D o) Q) (hd : Qd (upd H1 D (.lst (xs.map f)))) :
    ∃ W : Nat → Nat → Hp → Prop, (∃ m, W 0 m (upd H1 D (.lst []))) ∧ ∀ i m H, W i m H →
      (J.stop i H ∧ Qd H) ∨ (J.go i H ∧ ∃ Nx : Hp → Prop, (∀ H', Nx H' → ∃ m', m' < m ∧ W (i + 1) m' H') ∧ ∀ x H', J.yld i H x H' → gName j x (wipe σ [j]) H' fun σ2 H2 => wipe σ2 [j] = wipe σ [j] ∧ tYes σ2 H2 fun b H3 =>
        if b = true then te σ2 H3 fun y H4 => ∃ acc, H4 D = some (.lst acc) ∧ acc.length < sizeLine ∧ Nx (upd H4 D (.lst (acc ++ [y]))) else Nx H3) := by
  refine lc_it w (fun i H => H = upd H1 D (.lst ((xs.take i).map f))) rfl (fun i H _ e => by rw [e]; exact hG _) (fun i x H H' hi e y => ?_) (fun H e => by rw [e, hn, List.take_length]; exact hd)
  obtain ⟨e2, hx⟩ := hY i H x H' y
  subst e2
  subst e
  refine ⟨wipe1 σ j (some x), ?_⟩
  refine q_yes ?_
  refine iteT ?_
  have hlt : i < xs.length := by omega
  refine he i x _ _ hx ⟨(xs.take i).map f, upd_same, ?_, ?_⟩
  · rw [List.length_map, List.length_take]; omega
  · rw [upd_upd, List.take_add_one, hx, Option.toList_some, List.map_append]; rfl

/-! ### texts -/
theorem tl_len (s : Str) : s.cps.toList.length = s.length := by rw [Array.length_toList]; rfl
theorem str_ext {s z : Str} (h : s.cps.toList = z.cps.toList) : s = z := by
  cases s; cases z
  simp only [Str.mk.injEq]
  exact Array.toList_inj.mp h
theorem tl_app (a b : Str) : (a ++ b).cps.toList = a.cps.toList ++ b.cps.toList := by
  show (a.cps ++ b.cps).toList = _
  rw [Array.toList_append]
theorem len_app (a b : Str) : (a ++ b).length = a.length + b.length := by rw [← tl_len, tl_app, List.length_append, tl_len, tl_len]

/-! ### lists, tuples, texts: length, items -/
section
variable {K : PySem.W.Frag} {H : Hp} {a : Addr} {xs : List V} {v : V} {i : Int} {z : Str} {Q : VK}
theorem q_lenL {A : Nat → Prop} (h : SqL K H a xs) (q : A xs.length) : ∃ x n, [V.ref a] = [x] ∧ LenV K x H n ∧ A n := ⟨_, _, rfl, .inl ⟨_, h, rfl⟩, q⟩
theorem q_lenT {A : Nat → Prop} (h : SqT K H a xs) (q : A xs.length) : ∃ x n, [V.ref a] = [x] ∧ LenV K x H n ∧ A n := ⟨_, _, rfl, .inr ⟨_, h, rfl⟩, q⟩
theorem q_lenS {A : Nat → Prop} (h : z.length ≤ sizeLine) (q : A z.length) : ∃ x n, [V.str z] = [x] ∧ LenV K x H n ∧ A n := ⟨_, _, rfl, ⟨h, rfl⟩, q⟩
theorem q_ixL (h : SqL K H a xs) (e : atI xs i = some v) (q : Q v H) : rIxL K (.ref a) (.int i) H Q := ⟨_, _, _, _, rfl, rfl, h, e, q⟩
theorem q_ixT (h : SqT K H a xs) (e : atI xs i = some v) (q : Q v H) : rIxT K (.ref a) (.int i) H Q := ⟨_, _, _, _, rfl, rfl, h, e, q⟩
theorem q_ixS {c : Nat} (h : z.length ≤ sizeLine) (e : atI z.cps.toList i = some c) (q : Q (.str ⟨#[c]⟩) H) : rIxS (.str z) (.int i) H Q := ⟨_, _, _, rfl, rfl, h, e, q⟩
theorem q_int1 {A : Int → Prop} {B : Bool → Prop} (q : A i) : (∃ j, [V.int i] = [.int j] ∧ A j) ∨ ∃ k, [V.int i] = [.bl k] ∧ B k := .inl ⟨_, rfl, q⟩
theorem q_int1b {b : Bool} {A : Int → Prop} {B : Bool → Prop} (q : B b) : (∃ j, [V.bl b] = [.int j] ∧ A j) ∨ ∃ k, [V.bl b] = [.bl k] ∧ B k := .inr ⟨_, rfl, q⟩
theorem q_max2 {j : Int} {A : Int → Int → Prop} (q : A i j) : ∃ m n, [V.int i, V.int j] = [.int m, .int n] ∧ A m n := ⟨_, _, rfl, q⟩
theorem q_gSub {to ti : TE} {t : TSet} {σ : L2.St} {R : L2.St → Hp → Prop} (h : to σ H fun o H1 => ti σ H1 fun i H2 => t o i v H2 fun H3 => R σ H3) : gSub to ti t v σ H R := h
theorem q_setL {j : Nat} {R : Hp → Prop} (h : H a = some (.lst xs)) (e : ixN xs.length i = some j) (q : R (upd H a (.lst (xs.set j v)))) : rSetL (.ref a) (.int i) v H R := ⟨_, _, _, _, rfl, rfl, h, e, q⟩
end
theorem atI_of {α : Type} {xs : List α} {i : Int} {x : α} (h0 : 0 ≤ i) (h : xs[i.toNat]? = some x) : atI xs i = some x := by
  have e : i = ((i.toNat : Nat) : Int) := by omega
  rw [e]
  exact atI_nat h

/-! ### the law's pool of draws -/
structure Pool (H : Hp) (p : Addr) : Prop where
  ex : ∃ a b : Int, H p = some (.lst [.int a, .int b]) ∧ 0 ≤ a ∧ 0 ≤ b ∧ b < 2147483647
/-- all but what stands at p is as it was -/
def But (p : Addr) (H H' : Hp) : Prop := ∀ q o, q ≠ p → H q = some o → H' q = some o
theorem But.refl (p : Addr) (H : Hp) : But p H H := fun _ _ _ h => h
theorem But.trans {p : Addr} {H H1 H2 : Hp} (a : But p H H1) (b : But p H1 H2) : But p H H2 := fun q o n h => b q o n (a q o n h)
theorem But.of_same {p : Addr} {H H' : Hp} (h : Same H H') : But p H H' := fun q o _ e => h q o e
theorem But.upd {p : Addr} {H : Hp} {o : HO} : But p H (upd H p o) := fun q u n e => by rw [upd_ne n]; exact e
theorem But.new {p q : Addr} {H : Hp} {o : HO} (h : H q = none) : But p H (L2.upd H q o) := fun c u _ e => by rw [upd_ne (ne_of_none e h)]; exact e
theorem Same.new {q : Addr} {H : Hp} {o : HO} (h : H q = none) : Same H (upd H q o) := fun c u e => by rw [upd_ne (ne_of_none e h)]; exact e
theorem Pool.same {H H' : Hp} {p : Addr} (P : Pool H p) (e : Same H H') : Pool H' p := by
  obtain ⟨a, b, h, r⟩ := P.ex
  exact ⟨a, b, e _ _ h, r⟩
theorem Pool.there {H : Hp} {p : Addr} (P : Pool H p) : ∃ o, H p = some o := by
  obtain ⟨a, b, h, r⟩ := P.ex
  exact ⟨_, h⟩
def isMemT : List V → Bool
  | [k] => isWordV "nothing" k
  | [k, m] => (isWordV "times" k || isWordV "sum" k) && isIntTo 9 m
  | _ => false
def isMemH (H : Hp) : V → Bool
  | .ref a => match H a with
    | some (.tup xs) => isMemT xs
    | _ => false
  | _ => false
theorem isMemH_tup {H : Hp} {a : Addr} {xs : List V} (h : H a = some (.tup xs)) : isMemH H (.ref a) = isMemT xs := by simp [isMemH, h]
theorem isMemH_no {H : Hp} {x : V} (ha : Any H x) (h : (kindOf H x == "tuple") = false) : isMemH H x = false := by
  cases ha with
  | tup e => simp [kindOf, e] at h
  | lst e => simp [isMemH, e]
  | dK e => simp [isMemH, e]
  | _ => rfl
theorem isMemT_len {xs : List V} (h : ¬ (1 ≤ (xs.length : Int) ∧ (xs.length : Int) ≤ 2)) : isMemT xs = false := by
  match xs, h with
  | [], _ => rfl
  | [_], h => simp at h
  | [_, _], h => simp at h
  | _ :: _ :: _ :: _, _ => rfl

theorem q_leS {a b : Str} {A : Str → Str → Prop} (q : A a b) : ∃ i j, V.str a = .str i ∧ V.str b = .str j ∧ A i j := ⟨_, _, rfl, rfl, q⟩
def sgn (c : Nat) : V := .str ⟨#[c]⟩
def isLet (c : Nat) : Bool := decide (97 ≤ c) && decide (c ≤ 122)
def letV : V → V
  | .str s => .bl (s.cps.toList.all isLet)
  | v => v
theorem letV_sgn (c : Nat) : letV (sgn c) = .bl (isLet c) := by simp [letV, sgn]
theorem lt1 (a b : Nat) : decide ((⟨#[a]⟩ : Str).cps.toList < (⟨#[b]⟩ : Str).cps.toList) = decide (a < b) := by
  have e : ((⟨#[a]⟩ : Str).cps.toList < (⟨#[b]⟩ : Str).cps.toList) ↔ a < b := by
    show [a] < [b] ↔ a < b
    rw [List.cons_lt_cons_iff]
    constructor
    · rintro (h | ⟨_, h⟩)
      · exact h
      · exact absurd h (List.lt_irrefl _)
    · exact .inl
  by_cases h : a < b
  · rw [decide_eq_true h, decide_eq_true (e.mpr h)]
  · rw [decide_eq_false h, decide_eq_false (fun z => h (e.mp z))]
theorem at_sgn {l : List Nat} {i : Nat} {x : V} (h : (l.map sgn)[i]? = some x) : ∃ c, x = sgn c ∧ l[i]? = some c := by
  rw [List.getElem?_map] at h
  cases e : l[i]? with
  | none => rw [e] at h; cases h
  | some c => rw [e] at h; exact ⟨c, (Option.some.inj h).symm, rfl⟩
theorem str_a : ("a" : Str) = ⟨#[97]⟩ := by decide +kernel
theorem str_z : ("z" : Str) = ⟨#[122]⟩ := by decide +kernel

theorem But.seq {K : PySem.W.Frag} {H H' : Hp} {p a : Addr} {xs : List V} (e : But p H H') (n : a ≠ p) (h : SqL K H a xs) : SqL K H' a xs := by
  rcases h with (h | ⟨o, h⟩) | h
  · exact .inl (.inl (e _ _ n h))
  · exact .inl (.inr ⟨o, e _ _ n h⟩)
  · exact .inr h
theorem But.seqT {K : PySem.W.Frag} {H H' : Hp} {p a : Addr} {xs : List V} (e : But p H H') (n : a ≠ p) (h : SqT K H a xs) : SqT K H' a xs := by
  rcases h with (h | ⟨o, h⟩) | h
  · exact .inl (.inl (e _ _ n h))
  · exact .inl (.inr ⟨o, e _ _ n h⟩)
  · exact .inr h

/-- what an expression hands on, said once: R of the value and the heap -/
theorem q_cut {te : TE} {σ : L2.St} {H : Hp} {Q : VK} (R : V → Hp → Prop) (h : ∀ Q' : VK, (∀ v H', R v H' → Q' v H') → te σ H Q') (k : ∀ v H', R v H' → Q v H') : te σ H Q := h Q k

/-! ### new objects, loops over what was just laid -/
theorem q_new {H : Hp} {n : Nat} {A : Addr → Prop} (hl : n ≤ sizeLine) (q : ∀ p, H p = none → A p) : n ≤ sizeLine ∧ ∀ p, H p = none → A p := ⟨hl, q⟩
theorem q_dnewK {σ : L2.St} {H : Hp} {Q : VK} (q : ∀ p, H p = none → Q (.ref p) (upd H p (.dK []))) : tDNewK σ H Q := q
theorem q_for {wi : TI} {g : TG} {tb : TS} {D : Ends} {σ : L2.St} {H : Hp} (h : wi σ H fun J H1 => ∃ W : Nat → Nat → L2.St → Hp → Prop, (∃ m, W 0 m σ H1) ∧ ∀ i m σ H, W i m σ H →
    (J.stop i H ∧ D.nx σ H) ∨ (J.go i H ∧ ∃ N : L2.St → Hp → Prop, (∀ σ' H', N σ' H' → ∃ m', m' < m ∧ W (i + 1) m' σ' H') ∧ ∀ x H', J.yld i H x H' → g x σ H' fun σ2 H2 => tb { D with nx := N, ct := N, bk := D.nx } σ2 H2)) : tFor wi g tb D σ H := h
theorem q_iList {K : PySem.W.Frag} {tl : TE} {σ : L2.St} {H : Hp} {R : It → Hp → Prop} (h : tl σ H fun x H1 => ∃ a, x = .ref a ∧ (∃ xs, SqL K H1 a xs) ∧ R (Itl K a) H1) : iList K tl σ H R := h
theorem q_iRng1 {ta : TA} {σ : L2.St} {H : Hp} {R : It → Hp → Prop} (h : ta σ H fun vs H1 => ∃ j : Int, vs = [.int j] ∧ -(2 ^ 62) ≤ j ∧ j < 2 ^ 62 ∧ R (Itr 0 j.toNat) H1) : iRng1 ta σ H R := h
theorem set_self {σ : L2.St} {j : Nat} {y : Option V} (h : σ[j]? = some y) : σ = σ.set j y := by
  refine List.ext_getElem? fun i => ?_
  rw [List.getElem?_set]
  by_cases e : j = i
  · subst e
    have hj := (List.getElem?_eq_some_iff.mp h).1
    rw [if_pos rfl, if_pos hj, h]
  · rw [if_neg e]
/-- a loop that only looks: each turn leaves the slots but its own, and what was tracked -/
theorem for_chk {K : PySem.W.Frag} {a : Addr} {xs : List V} {j : Nat} {tb : TS} {D : Ends} {σ : L2.St} {H : Hp} (hs : SqL K H a xs) (h0 : ∃ y, σ[j]? = some y)
    (hb : ∀ x ∈ xs, ∀ H' (N : L2.St → Hp → Prop), Same H H' → (∀ y' H'', Same H H'' → N (σ.set j y') H'') → tb { D with nx := N, ct := N, bk := D.nx } (σ.set j (some x)) H')
    (hd : ∀ y H', Same H H' → D.nx (σ.set j y) H') :
    ∃ W : Nat → Nat → L2.St → Hp → Prop, (∃ m, W 0 m σ H) ∧ ∀ i m σ H, W i m σ H →
      ((Itl K a).stop i H ∧ D.nx σ H) ∨ ((Itl K a).go i H ∧ ∃ N : L2.St → Hp → Prop, (∀ σ' H', N σ' H' → ∃ m', m' < m ∧ W (i + 1) m' σ' H') ∧ ∀ x H', (Itl K a).yld i H x H' → gName j x σ H' fun σ2 H2 => tb { D with nx := N, ct := N, bk := D.nx } σ2 H2) := by
  obtain ⟨y0, h0⟩ := h0
  refine for_list (K := K) (a := a) (xs := xs) (fun _ σ' H' => ∃ y, σ' = σ.set j y ∧ Same H H') ⟨y0, set_self h0, Same.refl H⟩ (fun i σ' H' _ ⟨_, _, e⟩ => e.seq hs) ?_ ?_
  · rintro i x σ' H' hx ⟨y, rfl, e⟩
    show tb _ ((σ.set j y).set j (some x)) H'
    rw [List.set_set]
    exact hb x (List.mem_of_getElem? hx) H' _ e fun y' H'' e' => ⟨y', rfl, e'⟩
  · rintro σ' H' ⟨y, rfl, e⟩
    exact hd y H' e
theorem Pool.but {H : Hp} {p q : Addr} {o : HO} (P : Pool H p) (h : H q = none) : Pool (upd H q o) p := P.same (Same.new h)

/-! ### names out of signs -/
theorem join_sgn (cs : List Nat) : (Txt.join ("" : Str) (cs.map fun c => (⟨#[c]⟩ : Str))).cps.toList = cs := by
  rw [TL.join_eq]
  have e : ("" : Str) = ⟨#[]⟩ := by decide +kernel
  rw [e]
  match cs with
  | [] => rfl
  | [c] => rfl
  | c :: d :: r =>
    have ih := join_sgn (d :: r)
    rw [TL.join_eq, e] at ih
    show ((⟨#[c]⟩ : Str) ++ ⟨#[]⟩ ++ Str.join ⟨#[]⟩ ((d :: r).map fun c => (⟨#[c]⟩ : Str))).cps.toList = _
    rw [tl_app, tl_app, ih]
    rfl
theorem isName_of {s : Str} (h1 : 1 ≤ s.length) (h8 : s.length ≤ 8) (h : ∀ c ∈ s.cps.toList, isLet c = true) : isNameS s = true := by
  unfold isNameS
  rw [decide_eq_true h1, decide_eq_true h8, Bool.true_and, Bool.true_and, List.all_eq_true]
  exact h
theorem isName_bad {s : Str} {c : Nat} (h : c ∈ s.cps.toList) (hc : isLet c = false) : isNameS s = false := by
  unfold isNameS
  have e : (s.cps.toList.all fun c => decide (97 ≤ c) && decide (c ≤ 122)) = false := by
    rw [List.all_eq_false]
    exact ⟨c, h, by show ¬ isLet c = true; rw [hc]; exact Bool.false_ne_true⟩
  rw [e, Bool.and_false]
theorem isName_long {s : Str} (h : 8 < s.length) : isNameS s = false := by
  unfold isNameS
  rw [decide_eq_false (show ¬ s.length ≤ 8 by omega), Bool.and_false, Bool.false_and]

theorem q_gName {i : Nat} {v : V} {σ : L2.St} {H : Hp} {R : L2.St → Hp → Prop} (h : R (σ.set i (some v)) H) : gName i v σ H R := h
theorem q_m1 {r : V → List V → Hp → VK → Prop} {to te : TE} {σ : L2.St} {H : Hp} {Q : VK} (h : to σ H fun x H1 => (∃ a, x = .str a) ∧ te σ H1 fun y H2 => r x [y] H2 Q) : tM1 r to te σ H Q := h
theorem q_strI {s : Str} {A : Prop} (h : A) : (∃ a, V.str s = .str a) ∧ A := ⟨⟨_, rfl⟩, h⟩
/-- a list comprehension: its walk, then the new list at D -/
theorem q_lc {wi : TI} {g : TG} {tt : TT} {te : TE} {vs : List Nat} {σ : L2.St} {H : Hp} {Q : VK}
    (h : wi σ H fun J H1 => ∀ D, H1 D = none → ∃ W : Nat → Nat → Hp → Prop, (∃ m, W 0 m (upd H1 D (.lst []))) ∧ ∀ i m H, W i m H → (J.stop i H ∧ Q (.ref D) H) ∨
      (J.go i H ∧ ∃ Nx : Hp → Prop, (∀ H', Nx H' → ∃ m', m' < m ∧ W (i + 1) m' H') ∧ ∀ x H', J.yld i H x H' → g x (wipe σ vs) H' fun σ2 H2 => wipe σ2 vs = wipe σ vs ∧ tt σ2 H2 fun b H3 => if b = true then
        te σ2 H3 fun y H4 => ∃ acc, H4 D = some (.lst acc) ∧ acc.length < sizeLine ∧ Nx (upd H4 D (.lst (acc ++ [y]))) else Nx H3)) : tLc wi g tt te vs σ H Q := h
theorem Same.but {H H1 H2 : Hp} {p : Addr} (e : Same H H1) (hp : H p = none) (b : But p H1 H2) : Same H H2 := fun c o h => b c o (fun z => by rw [z, hp] at h; cases h) (e c o h)

theorem Any.same {H H' : Hp} {v : V} (h : Any H v) (e : Same H H') : Any H' v := by
  cases h with
  | non => exact .non
  | bl b => exact .bl b
  | int i => exact .int i
  | str s => exact .str s
  | lst h => exact .lst (e _ _ h)
  | tup h => exact .tup (e _ _ h)
  | dK h => exact .dK (e _ _ h)
theorem Any.ref {H : Hp} {a : Addr} (h : Any H (.ref a)) : ∃ o, H a = some o := by
  cases h with
  | lst h => exact ⟨_, h⟩
  | tup h => exact ⟨_, h⟩
  | dK h => exact ⟨_, h⟩
/-- items of a tuple are looked at, too -/
def Any2 (H : Hp) (v : V) : Prop := Any H v ∧ ∀ a xs, v = .ref a → H a = some (.tup xs) → ∀ y ∈ xs, Any H y
theorem Any2.same {H H' : Hp} {v : V} (h : Any2 H v) (e : Same H H') : Any2 H' v := by
  refine ⟨h.1.same e, fun a xs ha hx y hy => ?_⟩
  subst ha
  obtain ⟨o, ho⟩ := h.1.ref
  have h1 := e _ _ ho
  rw [hx] at h1
  cases h1
  exact (h.2 a xs rfl ho y hy).same e
theorem Any2.flat {H : Hp} {v : V} (h : Any H v) (hr : ∀ a, v ≠ .ref a) : Any2 H v := ⟨h, fun a _ e => absurd e (hr a)⟩
theorem Any2.tup {H : Hp} {a : Addr} {xs : List V} (h : H a = some (.tup xs)) (hx : ∀ y ∈ xs, Any H y) : Any2 H (.ref a) := ⟨.tup h, fun b ys e hb => by cases e; rw [h] at hb; cases hb; exact hx⟩
theorem Any2.lst {H : Hp} {a : Addr} {xs : List V} (h : H a = some (.lst xs)) : Any2 H (.ref a) := ⟨.lst h, fun b ys e hb => by cases e; rw [h] at hb; cases hb⟩
theorem Any2.dK {H : Hp} {a : Addr} {xs : List (Key × V)} (h : H a = some (.dK xs)) : Any2 H (.ref a) := ⟨.dK h, fun b ys e hb => by cases e; rw [h] at hb; cases hb⟩
theorem isMemH_same {H H' : Hp} {v : V} (h : Any H v) (e : Same H H') : isMemH H' v = isMemH H v := by
  cases h with
  | lst h => simp [isMemH, h, e _ _ h]
  | tup h => simp [isMemH, h, e _ _ h]
  | dK h => simp [isMemH, h, e _ _ h]
  | _ => rfl
theorem isMemH_lst {H : Hp} {a : Addr} {xs : List V} (h : H a = some (.lst xs)) : isMemH H (.ref a) = false := by simp [isMemH, h]
theorem isMemH_dK {H : Hp} {a : Addr} {xs : List (Key × V)} (h : H a = some (.dK xs)) : isMemH H (.ref a) = false := by simp [isMemH, h]
theorem sum_ones (cs : List Nat) : ((cs.map fun c => (⟨#[c]⟩ : Str)).map (·.length)).sum = cs.length := by
  induction cs with
  | nil => rfl
  | cons c r ih => rw [List.map_cons, List.map_cons, List.sum_cons, ih, List.length_cons]; show 1 + _ = _; omega

/-- the same, with what is true of each item, and stays so -/
theorem for_chkR {K : PySem.W.Frag} {a : Addr} {xs : List V} {j : Nat} {tb : TS} {D : Ends} {σ : L2.St} {H : Hp} (hs : SqL K H a xs) (h0 : ∃ y, σ[j]? = some y) (R : Hp → V → Prop) (mono : ∀ v H', R H v → Same H H' → R H' v) (hR : ∀ v ∈ xs, R H v)
    (hb : ∀ x H' (N : L2.St → Hp → Prop), R H' x → Same H H' → (∀ y' H'', Same H H'' → N (σ.set j y') H'') → tb { D with nx := N, ct := N, bk := D.nx } (σ.set j (some x)) H')
    (hd : ∀ y H', Same H H' → D.nx (σ.set j y) H') :
    ∃ W : Nat → Nat → L2.St → Hp → Prop, (∃ m, W 0 m σ H) ∧ ∀ i m σ H, W i m σ H → ((Itl K a).stop i H ∧ D.nx σ H) ∨
      ((Itl K a).go i H ∧ ∃ N : L2.St → Hp → Prop, (∀ σ' H', N σ' H' → ∃ m', m' < m ∧ W (i + 1) m' σ' H') ∧ ∀ x H', (Itl K a).yld i H x H' → gName j x σ H' fun σ2 H2 => tb { D with nx := N, ct := N, bk := D.nx } σ2 H2) :=
  for_chk hs h0 (fun x hx H' N e hN => hb x H' N (mono x H' (hR x hx) e) e hN) hd

theorem at_new {H : Hp} {q c : Addr} {o u : HO} (h : H q = none) (e : H c = some u) : upd H q o c = some u := Same.new h c u e
theorem at_same {H H' : Hp} {c : Addr} {u : HO} (h : Same H H') (e : H c = some u) : H' c = some u := h c u e
end Kx

local macro_rules | `(tactic| tm_at "xst1") => `(tactic| first
  | (with_reducible refine Kx.q_seq ?_) | (with_reducible refine Kx.q_next ?_) | (with_reducible refine Kx.q_asgN ?_) | (with_reducible refine Kx.q_asg ?_) | (with_reducible refine Kx.q_ret ?_) | (with_reducible refine Kx.q_ifS ?_) | (with_reducible refine Kx.q_drop ?_)
  | ((with_reducible refine Kx.q_var ?_); (refine ⟨_, rfl, ?_⟩)) | (with_reducible refine Kx.q_c ?_) | (with_reducible refine Kx.q_op ?_) | (with_reducible refine Kx.q_un ?_) | (with_reducible refine Kx.q_cb ?_)
  | (with_reducible refine Kx.q_test ?_) | (with_reducible refine Kx.q_B ?_) | (with_reducible refine Kx.q_bl ?_) | (with_reducible refine Kx.q_blI ?_) | (with_reducible refine Kx.q_and ?_) | (with_reducible refine Kx.q_or ?_) | (with_reducible refine Kx.q_not ?_) | (with_reducible refine Kx.q_yes ?_)
  | (with_reducible refine Kx.q_andV ?_) | (with_reducible refine Kx.q_orV ?_) | (with_reducible refine Kx.q_notV ?_) | (with_reducible refine Kx.q_if ?_) | (with_reducible refine Kx.q_chain ?_)
  | (with_reducible refine Kx.q_call ?_) | (with_reducible refine Kx.q_nil ?_) | (with_reducible refine Kx.q_cons ?_) | (with_reducible refine Kx.q_tup ?_) | (with_reducible refine Kx.q_lst ?_)
  | (with_reducible refine Kx.q_sl ?_) | (with_reducible refine Kx.q_noPart ?_) | (with_reducible refine Kx.q_part ?_) | (with_reducible refine Kx.q_int ?_) | (with_reducible refine Kx.q_par ?_) | (with_reducible refine Kx.q_two ?_)
  | (with_reducible refine Kx.q_I0 ?_) | (with_reducible refine Kx.q_U ?_) | ((with_reducible refine Kx.q_eq ?_ ?_); (· exact rfl)) | ((with_reducible refine Kx.q_ne ?_ ?_); (· exact rfl)) | (with_reducible refine Kx.q_isB ?_) | (with_reducible refine Kx.q_notB ?_)
  | (with_reducible refine Kx.q_gSub ?_) | (with_reducible refine Kx.q_int1 ?_) | (with_reducible refine Kx.q_int1b ?_) | (with_reducible refine Kx.q_max2 ?_)
  | ((with_reducible refine Kx.q_new ?_ ?_); (· exact Nat.le_of_ble_eq_true rfl); intro p hp) | ((with_reducible refine Kx.q_dnewK ?_); intro p hp) | (with_reducible refine Kx.q_for ?_) | (with_reducible refine Kx.q_iList ?_) | (with_reducible refine Kx.q_iRng1 ?_)
  | (with_reducible refine Kx.q_gName ?_) | (with_reducible refine Kx.q_m1 ?_) | (with_reducible refine Kx.q_strI ?_) | (with_reducible refine Kx.q_lc ?_)
  | (with_reducible refine L2.iteT ?_) | (with_reducible refine L2.iteF ?_))
/-- as far as it goes -/
local macro_rules | `(tactic| tm_at "xst") => `(tactic| repeat' (tm_at "xst1"))
/-- what stands at an address of a heap that grew -/
local macro_rules | `(tactic| tm_at "xlook") => `(tactic| first | assumption | exact L2.upd_same | (refine Kx.at_new (by assumption) ?_; tm_at "xlook") | (refine Kx.at_same (by assumption) ?_; tm_at "xlook"))
local macro_rules | `(tactic| tm_at "xany") => `(tactic| first | assumption | exact Kx.Any.non | exact Kx.Any.bl _ | exact Kx.Any.int _ | exact Kx.Any.str _ | (apply Kx.Any.lst; (tm_at "xlook")) | (apply Kx.Any.tup; (tm_at "xlook")) | (apply Kx.Any.dK; (tm_at "xlook")))
local macro_rules | `(tactic| tm_at "xpool") => `(tactic| first | assumption | (refine Kx.Pool.but ?_ (by assumption); tm_at "xpool") | (refine Kx.Pool.same ?_ (show L2.Same _ _ by assumption); tm_at "xpool"))
/-- all items of a written list -/
local macro_rules | `(tactic| tm_at "xeach") => `(tactic| first | exact List.forall_mem_nil _ | (refine List.forall_mem_cons.mpr ⟨?_, ?_⟩; rotate_left; (tm_at "xeach")))
local macro_rules | `(tactic| tm_at "xsame") => `(tactic| first | assumption | exact L2.Same.refl _ | (refine L2.Same.trans ?_ (Kx.Same.new (by assumption)); tm_at "xsame") | (refine L2.Same.trans ?_ (show L2.Same _ _ by assumption); tm_at "xsame") | (refine Kx.Same.but ?_ (by assumption) (by assumption); tm_at "xsame"))
local macro_rules | `(tactic| tm_at "xany2") => `(tactic| first | (apply Kx.Any2.lst; (tm_at "xlook")) | (apply Kx.Any2.dK; (tm_at "xlook")) | (apply Kx.Any2.tup; (· tm_at "xlook"); ((tm_at "xeach"); all_goals (tm_at "xany"))) | (refine Kx.Any2.flat ?_ ?_; (· tm_at "xany"); (intro _ z; cases z)))
/-- a test whose answer computes -/
local macro_rules | `(tactic| tm_at "xdec") => `(tactic| first | (refine Kx.i_yes rfl ?_) | (refine Kx.i_no rfl ?_))

namespace Toy
open PySem L2 Kx
def topS (i : Nat) : Stmt := PySem.Challenge.pw_cutofftills_k01_names_and_memories.main.body.getD i (.Pass ⟨0, 0, 0, 0⟩)
abbrev s__law_draw : Stmt := (topS 10)
abbrev s__law_pick : Stmt := (topS 11)
abbrev s__law_pool : Stmt := (topS 9)
abbrev s_is_integer : Stmt := (topS 3)
abbrev s_is_integer_to : Stmt := (topS 4)
abbrev s_is_word : Stmt := (topS 5)
abbrev s_is_memory : Stmt := (topS 7)
abbrev s_is_name : Stmt := (topS 6)
abbrev s_law : Stmt := (topS 12)
theorem sc__law_draw : FnScope ["_law_pool_here", "_law_many", "_law_found"] ["_law_pool_here", "_law_many"] (defScope s__law_draw) := ⟨rfl, rfl, rfl, by decide +kernel, rfl, by decide +kernel, by decide +kernel⟩
theorem sc__law_pick : FnScope ["_law_pool_here", "_law_row"] ["_law_pool_here", "_law_row"] (defScope s__law_pick) := ⟨rfl, rfl, rfl, by decide +kernel, rfl, by decide +kernel, by decide +kernel⟩
theorem sc__law_pool : FnScope ["_law_script", "_law_k", "_law_size", "_law_mixed"] ["_law_script", "_law_k"] (defScope s__law_pool) := ⟨rfl, rfl, rfl, by decide +kernel, rfl, by decide +kernel, by decide +kernel⟩
theorem sc_is_integer : FnScope ["value"] ["value"] (defScope s_is_integer) := ⟨rfl, rfl, rfl, by decide +kernel, rfl, by decide +kernel, by decide +kernel⟩
theorem sc_is_integer_to : FnScope ["value", "top"] ["value", "top"] (defScope s_is_integer_to) := ⟨rfl, rfl, rfl, by decide +kernel, rfl, by decide +kernel, by decide +kernel⟩
theorem sc_is_word : FnScope ["value", "word"] ["value", "word"] (defScope s_is_word) := ⟨rfl, rfl, rfl, by decide +kernel, rfl, by decide +kernel, by decide +kernel⟩
theorem sc_is_memory : FnScope ["value", "kind", "most"] ["value"] (defScope s_is_memory) := ⟨rfl, rfl, rfl, by decide +kernel, rfl, by decide +kernel, by decide +kernel⟩
theorem sc_is_name : FnScope ["value", "letter"] ["value"] (defScope s_is_name) := ⟨rfl, rfl, rfl, by decide +kernel, rfl, by decide +kernel, by decide +kernel⟩
theorem sc_law : FnScope ["_law_script", "_law_k", "_law_pool_here", "_law_signs", "_law_name", "_law_at", "_law_sign", "_law_odd", "_law_number", "_law_good", "_law_turn"] ["_law_script"] (defScope s_law) := ⟨rfl, rfl, rfl, by decide +kernel, rfl, by decide +kernel, by decide +kernel⟩
structure Txt (K : PySem.W.Frag) (mg : Str → Option Value) where
  a__law_draw : Addr
  d__law_draw : FuncData
  F__law_draw : Fun K "_law_draw" "_law_draw" s__law_draw a__law_draw d__law_draw
  g__law_draw : mg "_law_draw" = some (.ref a__law_draw)
  k__law_draw : PySem.W.keepIn K (.ref a__law_draw) = true
  b__law_draw : Binds K d__law_draw ["_law_pool_here", "_law_many"] []
  a__law_pick : Addr
  d__law_pick : FuncData
  F__law_pick : Fun K "_law_pick" "_law_pick" s__law_pick a__law_pick d__law_pick
  g__law_pick : mg "_law_pick" = some (.ref a__law_pick)
  k__law_pick : PySem.W.keepIn K (.ref a__law_pick) = true
  b__law_pick : Binds K d__law_pick ["_law_pool_here", "_law_row"] []
  a__law_pool : Addr
  d__law_pool : FuncData
  F__law_pool : Fun K "_law_pool" "_law_pool" s__law_pool a__law_pool d__law_pool
  g__law_pool : mg "_law_pool" = some (.ref a__law_pool)
  k__law_pool : PySem.W.keepIn K (.ref a__law_pool) = true
  b__law_pool : Binds K d__law_pool ["_law_script", "_law_k"] []
  a_is_integer : Addr
  d_is_integer : FuncData
  F_is_integer : Fun K "is_integer" "is_integer" s_is_integer a_is_integer d_is_integer
  g_is_integer : mg "is_integer" = some (.ref a_is_integer)
  k_is_integer : PySem.W.keepIn K (.ref a_is_integer) = true
  b_is_integer : Binds K d_is_integer ["value"] []
  a_is_integer_to : Addr
  d_is_integer_to : FuncData
  F_is_integer_to : Fun K "is_integer_to" "is_integer_to" s_is_integer_to a_is_integer_to d_is_integer_to
  g_is_integer_to : mg "is_integer_to" = some (.ref a_is_integer_to)
  k_is_integer_to : PySem.W.keepIn K (.ref a_is_integer_to) = true
  b_is_integer_to : Binds K d_is_integer_to ["value", "top"] []
  a_is_word : Addr
  d_is_word : FuncData
  F_is_word : Fun K "is_word" "is_word" s_is_word a_is_word d_is_word
  g_is_word : mg "is_word" = some (.ref a_is_word)
  k_is_word : PySem.W.keepIn K (.ref a_is_word) = true
  b_is_word : Binds K d_is_word ["value", "word"] []
  a_is_memory : Addr
  d_is_memory : FuncData
  F_is_memory : Fun K "is_memory" "is_memory" s_is_memory a_is_memory d_is_memory
  g_is_memory : mg "is_memory" = some (.ref a_is_memory)
  k_is_memory : PySem.W.keepIn K (.ref a_is_memory) = true
  b_is_memory : Binds K d_is_memory ["value"] []
  a_is_name : Addr
  d_is_name : FuncData
  F_is_name : Fun K "is_name" "is_name" s_is_name a_is_name d_is_name
  g_is_name : mg "is_name" = some (.ref a_is_name)
  k_is_name : PySem.W.keepIn K (.ref a_is_name) = true
  b_is_name : Binds K d_is_name ["value"] []
  a_law : Addr
  d_law : FuncData
  F_law : Fun K "law" "law" s_law a_law d_law
  g_law : mg "law" = some (.ref a_law)
  k_law : PySem.W.keepIn K (.ref a_law) = true
  b_law : Binds K d_law ["_law_script"] []
  no_all : mg "all" = none
  no_bool : mg "bool" = none
  no_int : mg "int" = none
  no_isinstance : mg "isinstance" = none
  no_len : mg "len" = none
  no_list : mg "list" = none
  no_max : mg "max" = none
  no_min : mg "min" = none
  no_range : mg "range" = none
  no_str : mg "str" = none
  no_tuple : mg "tuple" = none
  t_LONGEST_NAME : Tok
  g_LONGEST_NAME : mg "LONGEST_NAME" = some (.int 8 t_LONGEST_NAME)
  t_TOP_REMEMBERED : Tok
  g_TOP_REMEMBERED : mg "TOP_REMEMBERED" = some (.int 9 t_TOP_REMEMBERED)
theorem Txt.r_LONGEST_NAME {K : PySem.W.Frag} {mg : Str → Option Value} (T : Txt K mg) : RelV (.int 8) (.int 8 T.t_LONGEST_NAME) := ⟨_, rfl⟩
theorem Txt.r_TOP_REMEMBERED {K : PySem.W.Frag} {mg : Str → Option Value} (T : Txt K mg) : RelV (.int 9) (.int 9 T.t_TOP_REMEMBERED) := ⟨_, rfl⟩
end Toy
namespace Toy
open PySem PySem.Spec PyProof.Rows L2 Kx
def sp__law_draw : Sp := fun vs H Q _ => ∃ (p : Addr) (n : Int), vs = [.ref p, .int n] ∧ Pool H p ∧ 0 < n ∧ n < 1073741824 ∧ ∀ (r : Int) (H' : Hp), 0 ≤ r → r < n → Pool H' p → But p H H' → Q (.int r) H'
section
variable {P : Program} {w : World} {K : PySem.W.Frag} {mg : Str → Option Value} {base : Heap}
theorem ok__law_draw (T : Txt K mg) : FnOk P w K mg base CX0 1 T.a__law_draw T.d__law_draw ["_law_pool_here", "_law_many"] sp__law_draw := by
  have nd := sc__law_draw.nd
  refine T.F__law_draw.ok sc__law_draw (fun vs H Q E h => ?_) (fun cdv A outer s H vs Q E hr h => ?_)
  · obtain ⟨p, n, rfl, _⟩ := h; rfl
  · obtain ⟨p, n, rfl, P, hn, hn2, k⟩ := h
    have hu := hu_of hr
    refine ⟨_, (pss_cons (ps_if (pt_cmpR op_gt (pe_ix ix_list (pv 0) (pe_int) (fun _ _ => rfl)) (pe_int) (nomark _)) (pss_cons (ps_set (i := 2) nd rfl (by first | exact Or.inl rfl | exact Or.inr rfl) (pe_op op_mod (pe_callTy call_int1 (by rfl) T.no_int (by decide +kernel) (pa_cons (pe_ix ix_list (pv 0) (pe_int) (fun _ _ => rfl)) pa_nil)) (pv 1)))
      (pss_cons (ps_asg (pe_op op_fdiv (pe_ix ix_list (pv 0) (pe_int) (fun _ _ => rfl)) (pv 1)) (pg_sub (pv 0) (pe_int) set_list))
      (pss_one (ps_ret (pv 2))))) pss_nil)
      (pss_cons (ps_asg (pe_op op_mod (pe_callTy call_int1 (by rfl) T.no_int (by decide +kernel) (pa_cons (pe_op op_add (pe_op op_mul (pe_ix ix_list (pv 0) (pe_int) (fun _ _ => rfl)) (pe_int)) (pe_int)) pa_nil)) (pe_int)) (pg_sub (pv 0) (pe_int) set_list))
      (pss_one (ps_ret (pe_op op_mod (pe_callTy call_int1 (by rfl) T.no_int (by decide +kernel) (pa_cons (pe_op op_fdiv (pe_op op_mod (pe_callTy call_int1 (by rfl) T.no_int (by decide +kernel) (pa_cons (pe_op op_mul (pe_ix ix_list (pv 0) (pe_int) (fun _ _ => rfl)) (pe_ix ix_list (pv 0) (pe_int) (fun _ _ => rfl))) pa_nil)) (pe_int)) (pe_int)) pa_nil)) (pv 1)))))), ?_⟩
    obtain ⟨a, b, h, h0, h1, h2⟩ := P.ex
    tm_at "xst"
    refine q_ixL (SqL.of h) rfl ?_
    tm_at "xst"
    refine i_dec (fun h3 => ?_) (fun h3 => ?_)
    · tm_at "xst"
      refine q_ixL (SqL.of h) rfl ?_
      tm_at "xst"
      refine q_I hn ?_
      tm_at "xst"
      refine q_ixL (SqL.of h) rfl ?_
      tm_at "xst"
      refine q_I ⟨hn, hn2⟩ ?_
      tm_at "xst"
      refine q_setL h rfl ?_
      tm_at "xst"
      exact k _ _ (Int.emod_nonneg _ (by omega)) (Int.emod_lt_of_pos _ hn) ⟨a / n, b, upd_same, Int.ediv_nonneg h0 (by omega), h1, h2⟩ But.upd
    · tm_at "xst"
      refine q_ixL (SqL.of h) rfl ?_
      tm_at "xst"
      refine q_I (.inr ⟨by decide, by decide⟩) ?_
      tm_at "xst"
      refine q_I (by decide) ?_
      tm_at "xst"
      refine q_setL h rfl ?_
      have e0 := Int.emod_nonneg (b * 48271 + 11) (show (2147483647 : Int) ≠ 0 by decide)
      have e1 := Int.emod_lt_of_pos (b * 48271 + 11) (show (0 : Int) < 2147483647 by decide)
      generalize (b * 48271 + 11) % 2147483647 = c at e0 e1 ⊢
      have h' : (upd H p (.lst [.int a, .int c])) p = some (.lst [.int a, .int c]) := upd_same
      tm_at "xst"
      refine q_ixL (SqL.of h') rfl ?_
      tm_at "xst"
      refine q_ixL (SqL.of h') rfl ?_
      tm_at "xst"
      refine q_I (.inl ⟨by omega, by omega⟩) ?_
      tm_at "xst"
      refine q_I (by decide) ?_
      tm_at "xst"
      refine q_I ⟨by decide, by decide⟩ ?_
      tm_at "xst"
      refine q_I hn ?_
      exact k _ _ (Int.emod_nonneg _ (by omega)) (Int.emod_lt_of_pos _ hn) ⟨a, c, h', h0, e0, e1⟩ But.upd
end
end Toy
namespace Toy
open PySem PySem.Spec PyProof.Rows L2 Kx
def sp__law_pick (K : PySem.W.Frag) : Sp := fun vs H Q _ => ∃ (p : Addr) (row : V), vs = [.ref p, row] ∧ Pool H p ∧
  ((∃ s, row = .str s ∧ 0 < s.length ∧ s.length ≤ 1000 ∧ ∀ c H', c ∈ s.cps.toList → Pool H' p → But p H H' → Q (sgn c) H') ∨
   (∃ q xs, row = .ref q ∧ q ≠ p ∧ SqL K H q xs ∧ 0 < xs.length ∧ xs.length ≤ 1000 ∧ ∀ v H', v ∈ xs → Pool H' p → But p H H' → Q v H') ∨
   (∃ q xs, row = .ref q ∧ q ≠ p ∧ SqT K H q xs ∧ 0 < xs.length ∧ xs.length ≤ 1000 ∧ ∀ v H', v ∈ xs → Pool H' p → But p H H' → Q v H'))
section
variable {P : Program} {w : World} {K : PySem.W.Frag} {mg : Str → Option Value} {base : Heap}
theorem ok__law_pick (T : Txt K mg) : FnOk P w K mg base CX0 2 T.a__law_pick T.d__law_pick ["_law_pool_here", "_law_row"] (sp__law_pick K) := by
  have nd := sc__law_pick.nd
  refine T.F__law_pick.ok sc__law_pick (fun vs H Q E h => ?_) (fun cdv A outer s H vs Q E hr h => ?_)
  · obtain ⟨p, n, rfl, _⟩ := h; rfl
  · obtain ⟨p, row, rfl, P, h⟩ := h
    have hu := hu_of hr
    refine ⟨_, (pss_one (ps_ret (pe_ix ix_seq (pv 1) (pe_call (ok__law_draw T) (hr.mono (by decide)) rfl T.g__law_draw T.k__law_draw T.b__law_draw .nil pass0 (pa_cons (pv 0) (pa_cons (pe_callB call_len (by rfl) T.no_len (by decide +kernel) (pa_cons (pv 1) pa_nil)) pa_nil))) (fun _ _ => rfl)))), ?_⟩
    tm_at "xst"
    rcases h with ⟨s, rfl, h1, h2, k⟩ | ⟨q, xs, rfl, hqp, hs, h1, h2, k⟩ | ⟨q, xs, rfl, hqp, hs, h1, h2, k⟩
    · have hz : s.length ≤ sizeLine := Nat.le_trans h2 (by decide)
      refine q_lenS hz ?_
      tm_at "xst"
      refine ⟨p, _, rfl, P, by omega, by omega, fun r H' r0 r1 P' B => ?_⟩
      have hr : r.toNat < s.cps.toList.length := by rw [tl_len]; omega
      exact .inr (.inr (q_ixS hz (atI_of r0 (List.getElem?_eq_getElem hr)) (k _ H' (List.getElem_mem hr) P' B)))
    · refine q_lenL hs ?_
      tm_at "xst"
      refine ⟨p, _, rfl, P, by omega, by omega, fun r H' r0 r1 P' B => ?_⟩
      have hr : r.toNat < xs.length := by omega
      exact .inl (q_ixL (B.seq hqp hs) (atI_of r0 (List.getElem?_eq_getElem hr)) (k _ H' (List.getElem_mem hr) P' B))
    · refine q_lenT hs ?_
      tm_at "xst"
      refine ⟨p, _, rfl, P, by omega, by omega, fun r H' r0 r1 P' B => ?_⟩
      have hr : r.toNat < xs.length := by omega
      exact .inr (.inl (q_ixT (B.seqT hqp hs) (atI_of r0 (List.getElem?_eq_getElem hr)) (k _ H' (List.getElem_mem hr) P' B)))
end
end Toy
namespace Toy
open PySem PySem.Spec PyProof.Rows L2 Kx
def sp__law_pool (K : PySem.W.Frag) : Sp := fun vs H Q _ => ∃ (a : Addr) (ns : List Int) (k : Int), vs = [.ref a, .int k] ∧ SqL K H a (ns.map V.int) ∧ ns.length ≤ 63 ∧ 0 ≤ k ∧ k ≤ 1000 ∧ ∀ p H', H p = none → Pool H' p → Same H H' → Q (.ref p) H'
section
variable {P : Program} {w : World} {K : PySem.W.Frag} {mg : Str → Option Value} {base : Heap}
theorem ok__law_pool (T : Txt K mg) : FnOk P w K mg base CX0 1 T.a__law_pool T.d__law_pool ["_law_script", "_law_k"] (sp__law_pool K) := by
  have nd := sc__law_pool.nd
  refine T.F__law_pool.ok sc__law_pool (fun vs H Q E h => ?_) (fun cdv A outer s H vs Q E hr h => ?_)
  · obtain ⟨p, ns, n, rfl, _⟩ := h; rfl
  · obtain ⟨a, ns, n, rfl, hs, hl, hn, hn2, k⟩ := h
    have hu := hu_of hr
    refine ⟨_, (pss_cons (ps_set (i := 2) nd rfl (by first | exact Or.inl rfl | exact Or.inr rfl) (pe_ifExp (pt_cmpR op_lt (pv 1) (pe_callB call_len (by rfl) T.no_len (by decide +kernel) (pa_cons (pv 0) pa_nil)) (nomark _)) (pe_callB (call_max2 rfl) (by rfl) T.no_max (by decide +kernel) (pa_cons (pe_callTy call_int1 (by rfl) T.no_int (by decide +kernel) (pa_cons (pe_ix ix_list (pv 0) (pv 1) (fun _ _ => rfl)) pa_nil)) (pa_cons (pe_callTy call_int1 (by rfl) T.no_int (by decide +kernel) (pa_cons (pe_op op_sub (pe_un un_neg (pe_int)) (pe_ix ix_list (pv 0) (pv 1) (fun _ _ => rfl))) pa_nil)) pa_nil))) (pe_int)))
      (pss_cons (ps_set (i := 3) nd rfl (by first | exact Or.inl rfl | exact Or.inr rfl) (pe_op op_add (pe_op op_mod (pe_callTy call_int1 (by rfl) T.no_int (by decide +kernel) (pa_cons (pe_op op_mul (pe_op op_add (pe_op op_mod (pe_callTy call_int1 (by rfl) T.no_int (by decide +kernel) (pa_cons (pv 2) pa_nil)) (pe_int)) (pe_op op_mul (pe_int) (pe_op op_add (pv 1) (pe_int)))) (pe_int)) pa_nil)) (pe_int)) (pe_int)))
      (pss_one (ps_ret (pe_lst (pa_cons (pe_op op_mul (pv 2) (pe_callTy call_int1 (by rfl) T.no_int (by decide +kernel) (pa_cons (pe_cmpR op_ge (pv 2) (pe_op op_pow (pe_int) (pe_int)) (nomark _)) pa_nil))) (pa_cons (pe_op op_mod (pe_callTy call_int1 (by rfl) T.no_int (by decide +kernel) (pa_cons (pe_op op_mul (pv 3) (pv 3)) pa_nil)) (pe_int)) pa_nil))))))), ?_⟩
    refine q_seq ?_
    refine q_asgN ?_
    refine q_cut (fun v H' => H' = H ∧ ∃ z, v = .int z ∧ 0 ≤ z) (fun Q' kq => ?_) ?_
    · tm_at "xst"
      refine q_lenL hs ?_
      tm_at "xst"
      refine i_dec (fun h1 => ?_) (fun h1 => ?_)
      · rw [List.length_map] at h1
        have hlt : n.toNat < ns.length := by omega
        have e : atI (ns.map V.int) n = some (V.int ns[n.toNat]) := atI_of hn (by rw [List.getElem?_map, List.getElem?_eq_getElem hlt]; rfl)
        generalize ns[n.toNat] = x at e
        tm_at "xst"
        refine q_ixL hs e ?_
        tm_at "xst"
        refine q_ixL hs e ?_
        tm_at "xst"
        exact kq _ _ ⟨rfl, _, rfl, by split <;> omega⟩
      · tm_at "xst"
        exact kq _ _ ⟨rfl, 7, rfl, by decide⟩
    rintro v H' ⟨rfl, z, rfl, hz⟩
    tm_at "xst"
    refine q_I (by decide) ?_
    tm_at "xst"
    refine q_I (.inl ⟨by decide, by decide⟩) ?_
    tm_at "xst"
    refine q_I (.inr ⟨by decide, by decide⟩) ?_
    tm_at "xst"
    refine q_I (by decide) ?_
    tm_at "xst"
    have e0 := Int.emod_nonneg ((z % 2147483629 + 104729 * (n + 1)) * 48271) (show (2147483629 : Int) ≠ 0 by decide)
    have e1 := Int.emod_lt_of_pos ((z % 2147483629 + 104729 * (n + 1)) * 48271) (show (0 : Int) < 2147483629 by decide)
    generalize ((z % 2147483629 + 104729 * (n + 1)) * 48271) % 2147483629 = c at e0 e1 ⊢
    refine q_I ⟨by decide, by decide, by decide⟩ ?_
    tm_at "xst"
    refine q_I (.inr ⟨by split <;> decide, by split <;> decide⟩) ?_
    tm_at "xst"
    refine q_I (.inl ⟨by omega, by omega⟩) ?_
    tm_at "xst"
    refine q_I (by decide) ?_
    refine ⟨show 2 ≤ sizeLine by decide, fun p hp => k p _ hp ⟨_, _, upd_same, ?_, Int.emod_nonneg _ (by decide), ?_⟩ (Same.new hp)⟩
    · exact Int.mul_nonneg hz (by split <;> decide)
    · have := Int.emod_lt_of_pos ((c + 1) * (c + 1)) (show (0 : Int) < 2147483629 by decide)
      omega
end
end Toy
namespace Toy
open PySem PySem.Spec PyProof.Rows L2 Kx
def sp_is_integer : Sp := fun vs H Q _ => ∃ x, vs = [x] ∧ Any H x ∧ Q (.bl (isInt x)) H
section
variable {P : Program} {w : World} {K : PySem.W.Frag} {mg : Str → Option Value} {base : Heap}
theorem ok_is_integer (T : Txt K mg) : FnOk P w K mg base CX0 1 T.a_is_integer T.d_is_integer ["value"] sp_is_integer := by
  have nd := sc_is_integer.nd
  refine T.F_is_integer.ok sc_is_integer (fun vs H Q E h => ?_) (fun cdv A outer s H vs Q E hr h => ?_)
  · obtain ⟨x, rfl, _⟩ := h; rfl
  · obtain ⟨x, rfl, ha, k⟩ := h
    have hu := hu_of hr
    refine ⟨_, (pss_one (ps_ret ((pe_and (pe_callB call_isi (by rfl) T.no_isinstance (by decide +kernel) (pa_cons (pv 0) (pa_cons (pe_bltn (v := .ty "int") (u := .type "int") (by rfl) T.no_int (by decide +kernel) rfl) pa_nil))) (pe_one (pe_not (pe_callB call_isi (by rfl) T.no_isinstance (by decide +kernel) (pa_cons (pv 0) (pa_cons (pe_bltn (v := .ty "bool") (u := .type "bool") (by rfl) T.no_bool (by decide +kernel) rfl) pa_nil))))))))), ?_⟩
    tm_at "xst"
    rw [isInt_eq ha] at k
    refine q_isInt ha ?_
    tm_at "xst"
    refine i_b (fun h1 => ?_) (fun h1 => ?_)
    · tm_at "xst"
      refine q_isBool ha ?_
      tm_at "xst"
      rw [h1] at k
      exact k
    · rw [h1] at k
      exact k
end
end Toy
namespace Toy
open PySem PySem.Spec PyProof.Rows L2 Kx
def sp_is_integer_to : Sp := fun vs H Q _ => ∃ x t, vs = [x, .int t] ∧ Any H x ∧ Q (.bl (isIntTo t x)) H
section
variable {P : Program} {w : World} {K : PySem.W.Frag} {mg : Str → Option Value} {base : Heap}
theorem ok_is_integer_to (T : Txt K mg) : FnOk P w K mg base CX0 2 T.a_is_integer_to T.d_is_integer_to ["value", "top"] sp_is_integer_to := by
  have nd := sc_is_integer_to.nd
  refine T.F_is_integer_to.ok sc_is_integer_to (fun vs H Q E h => ?_) (fun cdv A outer s H vs Q E hr h => ?_)
  · obtain ⟨x, t, rfl, _⟩ := h; rfl
  · obtain ⟨x, t, rfl, ha, k⟩ := h
    have hu := hu_of hr
    refine ⟨_, (pss_one (ps_ret ((pe_and (pe_call (ok_is_integer T) (hr.mono (by decide)) rfl T.g_is_integer T.k_is_integer T.b_is_integer .nil pass0 (pa_cons (pv 0) pa_nil)) (pe_one (pe_chain op_le op_le (pe_int) (pv 0) (pv 1))))))), ?_⟩
    tm_at "xst"
    refine ⟨x, rfl, ha, ?_⟩
    tm_at "xst"
    refine i_b (fun h1 => ?_) (fun h1 => ?_)
    · obtain ⟨i, rfl⟩ := isInt_true h1
      tm_at "xst"
      refine i_dec (fun h2 => ?_) (fun h2 => ?_)
      · tm_at "xst"
        simp only [isIntTo, decide_eq_true h2, Bool.true_and] at k
        exact k
      · simp only [isIntTo, decide_eq_false h2, Bool.false_and] at k
        exact k
    · rw [isIntTo_not h1] at k
      exact k
end
end Toy
namespace Toy
open PySem PySem.Spec PyProof.Rows L2 Kx
def sp_is_word : Sp := fun vs H Q _ => ∃ x w, vs = [x, .str w] ∧ Any H x ∧ Q (.bl (isWordV w x)) H
section
variable {P : Program} {w : World} {K : PySem.W.Frag} {mg : Str → Option Value} {base : Heap}
theorem ok_is_word (T : Txt K mg) : FnOk P w K mg base CX0 1 T.a_is_word T.d_is_word ["value", "word"] sp_is_word := by
  have nd := sc_is_word.nd
  refine T.F_is_word.ok sc_is_word (fun vs H Q E h => ?_) (fun cdv A outer s H vs Q E hr h => ?_)
  · obtain ⟨x, t, rfl, _⟩ := h; rfl
  · obtain ⟨x, w, rfl, ha, k⟩ := h
    have hu := hu_of hr
    refine ⟨_, (pss_one (ps_ret ((pe_and (pe_callB call_isi (by rfl) T.no_isinstance (by decide +kernel) (pa_cons (pv 0) (pa_cons (pe_bltn (v := .ty "str") (u := .type "str") (by rfl) T.no_str (by decide +kernel) rfl) pa_nil))) (pe_one (pe_cmpR op_eq (pv 0) (pv 1) (nomark _))))))), ?_⟩
    tm_at "xst"
    refine q_isStr ha ?_
    tm_at "xst"
    refine i_b (fun h1 => ?_) (fun h1 => ?_)
    · obtain ⟨s, rfl⟩ := kind_str ha h1
      tm_at "xst"
      exact k
    · rw [nword_of (kind_nstr h1)] at k
      exact k
end
end Toy
namespace Toy
open PySem PySem.Spec PyProof.Rows L2 Kx
def sp_is_memory : Sp := fun vs H Q _ => ∃ x, vs = [x] ∧ Any H x ∧ (∀ a xs, x = .ref a → H a = some (.tup xs) → ∀ v ∈ xs, Any H v) ∧ Q (.bl (isMemH H x)) H
section
variable {P : Program} {w : World} {K : PySem.W.Frag} {mg : Str → Option Value} {base : Heap}
theorem ok_is_memory (T : Txt K mg) : FnOk P w K mg base CX0 3 T.a_is_memory T.d_is_memory ["value"] sp_is_memory := by
  have nd := sc_is_memory.nd
  refine T.F_is_memory.ok sc_is_memory (fun vs H Q E h => ?_) (fun cdv A outer s H vs Q E hr h => ?_)
  · obtain ⟨x, rfl, _⟩ := h; rfl
  · obtain ⟨x, rfl, ha, hm, k⟩ := h
    have hu := hu_of hr
    refine ⟨_, (pss_cons (ps_if (PW.pt (pw_or (pt_not (pt_val (pe_callB call_isi (by rfl) T.no_isinstance (by decide +kernel) (pa_cons (pv 0) (pa_cons (pe_bltn (v := .ty "tuple") (u := .type "tuple") (by rfl) T.no_tuple (by decide +kernel) rfl) pa_nil))))) (pw_or1 (pt_not (pt_chain op_le op_le (pe_int) (pe_callB call_len (by rfl) T.no_len (by decide +kernel) (pa_cons (pv 0) pa_nil)) (pe_int)))))) (pss_one (ps_ret (pe_bl))) pss_nil)
      (pss_cons (ps_if (pt_cmpR op_eq (pe_callB call_len (by rfl) T.no_len (by decide +kernel) (pa_cons (pv 0) pa_nil)) (pe_int) (nomark _)) (pss_one (ps_ret (pe_call (ok_is_word T) (hr.mono (by decide)) rfl T.g_is_word T.k_is_word T.b_is_word .nil pass0 (pa_cons (pe_ix ix_tup (pv 0) (pe_int) (fun _ _ => rfl)) (pa_cons (pe_str) pa_nil))))) pss_nil)
      (pss_cons (ps_asg (pv 0) (pg_tup rfl (pgs_cons (pg_name (i := 1) nd rfl (by first | exact Or.inl rfl | exact Or.inr rfl)) (pgs_cons (pg_name (i := 2) nd rfl (by first | exact Or.inl rfl | exact Or.inr rfl)) pgs_nil))))
      (pss_one (ps_ret ((pe_and ((pe_or (pe_call (ok_is_word T) (hr.mono (by decide)) rfl T.g_is_word T.k_is_word T.b_is_word .nil pass0 (pa_cons (pv 1) (pa_cons (pe_str) pa_nil))) (pe_one (pe_call (ok_is_word T) (hr.mono (by decide)) rfl T.g_is_word T.k_is_word T.b_is_word .nil pass0 (pa_cons (pv 1) (pa_cons (pe_str) pa_nil)))))) (pe_one (pe_call (ok_is_integer_to T) (hr.mono (by decide)) rfl T.g_is_integer_to T.k_is_integer_to T.b_is_integer_to .nil pass0 (pa_cons (pv 2) (pa_cons (pe_glob rfl T.g_TOP_REMEMBERED T.r_TOP_REMEMBERED) pa_nil))))))))))), ?_⟩
    tm_at "xst"
    refine q_isTuple ha ?_
    tm_at "xst"
    refine i_b (fun h1 => ?_) (fun h1 => ?_)
    · rw [isMemH_no ha (by simpa using h1)] at k
      exact k
    · obtain ⟨a, xs, rfl, h⟩ := kind_tup ha (by simpa using h1)
      have hm := hm a xs rfl h
      rw [isMemH_tup h] at k
      tm_at "xst"
      refine q_lenT (SqT.of h) ?_
      tm_at "xst"
      refine i_dec (fun h2 => ?_) (fun h2 => ?_)
      · tm_at "xst"
        refine i_ndec (fun h3 => ?_) (fun h3 => ?_)
        · rw [isMemT_len (by omega)] at k
          exact k
        · tm_at "xst"
          refine q_lenT (SqT.of h) ?_
          tm_at "xst"
          match xs, h, hm, k, h2, h3 with
          | [y], h, hm, k, _, _ =>
            refine iteT ?_
            tm_at "xst"
            refine q_ixT (SqT.of h) rfl ?_
            tm_at "xst"
            exact ⟨y, _, rfl, hm y (by simp), k⟩
          | [y, z], h, hm, k, _, _ =>
            refine iteF ?_
            tm_at "xst"
            refine ⟨a, [y, z], rfl, SqT.of h, rfl, _, _, rfl, _, _, rfl, rfl, ?_⟩
            tm_at "xst"
            refine ⟨y, _, rfl, hm y (by simp), ?_⟩
            tm_at "xst"
            refine i_b (fun h4 => ?_) (fun h4 => ?_)
            · tm_at "xst"
              refine ⟨z, _, rfl, hm z (by simp), ?_⟩
              simp only [isMemT, h4, Bool.true_or, Bool.true_and] at k
              exact k
            · tm_at "xst"
              refine ⟨y, _, rfl, hm y (by simp), ?_⟩
              tm_at "xst"
              refine i_b (fun h5 => ?_) (fun h5 => ?_)
              · tm_at "xst"
                refine ⟨z, _, rfl, hm z (by simp), ?_⟩
                simp only [isMemT, h4, h5, Bool.false_or, Bool.true_and] at k
                exact k
              · simp only [isMemT, h4, h5, Bool.false_or, Bool.false_and] at k
                exact k
          | [], _, _, _, h2, _ => simp at h2
          | _ :: _ :: _ :: _, _, _, _, _, h3 => simp at h3; omega
      · tm_at "xst"
        rw [isMemT_len (by omega)] at k
        exact k
end
end Toy
namespace Toy
open PySem PySem.Spec PyProof.Rows L2 Kx
def sp_is_name : Sp := fun vs H Q _ => ∃ x, vs = [x] ∧ Any H x ∧ (∀ s, x = .str s → s.length ≤ 100000) ∧ ∀ H', Same H H' → Q (.bl (isNameV x)) H'
section
variable {P : Program} {w : World} {K : PySem.W.Frag} {mg : Str → Option Value} {base : Heap}
theorem ok_is_name (T : Txt K mg) : FnOk P w K mg base CX0 1 T.a_is_name T.d_is_name ["value"] sp_is_name := by
  have nd := sc_is_name.nd
  refine T.F_is_name.ok sc_is_name (fun vs H Q E h => ?_) (fun cdv A outer s H vs Q E hr h => ?_)
  · obtain ⟨x, rfl, _⟩ := h; rfl
  · obtain ⟨x, rfl, ha, hz, k⟩ := h
    have hu := hu_of hr
    refine ⟨_, (pss_cons (ps_if (PW.pt (pw_or (pt_not (pt_val (pe_callB call_isi (by rfl) T.no_isinstance (by decide +kernel) (pa_cons (pv 0) (pa_cons (pe_bltn (v := .ty "str") (u := .type "str") (by rfl) T.no_str (by decide +kernel) rfl) pa_nil))))) (pw_or1 (pt_not (pt_chain op_le op_le (pe_int) (pe_callB call_len (by rfl) T.no_len (by decide +kernel) (pa_cons (pv 0) pa_nil)) (pe_glob rfl T.g_LONGEST_NAME T.r_LONGEST_NAME)))))) (pss_one (ps_ret (pe_bl))) pss_nil)
      (pss_one (ps_ret (pe_callB (cr_all rfl) (by rfl) T.no_all (by decide +kernel) (pa_cons (pe_lc (own := [("letter", 1)]) rfl nd (pi_str (pv 0)) (blkOk_by (N := ["value", "letter"]) (sc := defScope s_is_name) (by decide +kernel)) (fun _ _ _ _ _ => (pg_name (i := 1) nd rfl (by first | exact Or.inl rfl | exact Or.inr rfl))) (fun _ _ _ _ _ => pts_nil) (fun _ _ _ _ _ => (pe_chain op_le_str op_le_str (pe_str) (pv 1) (pe_str)))) pa_nil))))), ?_⟩
    tm_at "xst"
    refine q_isStr ha ?_
    tm_at "xst"
    refine i_b (fun h1 => ?_) (fun h1 => ?_)
    · have k := k H (Same.refl H)
      rw [nname_of (kind_nstr (by simpa using h1))] at k
      tm_at "xst"
      exact k
    · obtain ⟨s, rfl⟩ := kind_str ha (by simpa using h1)
      have hz := hz s rfl
      have hs : s.length ≤ sizeLine := Nat.le_trans hz (by decide)
      have k0 := k H (Same.refl H)
      tm_at "xst"
      refine q_lenS hs ?_
      tm_at "xst"
      refine i_dec (fun h2 => ?_) (fun h2 => ?_)
      · tm_at "xst"
        refine i_ndec (fun h3 => ?_) (fun h3 => ?_)
        · tm_at "xst"
          have e : isNameV (.str s) = false := by
            simp only [isNameV, isNameS]
            rw [decide_eq_false (show ¬ s.length ≤ 8 by omega)]
            simp
          rw [e] at k0
          exact k0
        · tm_at "xst"
          refine ⟨_, rfl, s, rfl, fun D hD => lc_map walk_str (s.cps.toList.map sgn) letV (by rw [List.length_map, Array.length_toList]) (by show s.length < sizeLine; exact Nat.lt_of_le_of_lt hz (by decide)) (fun _ => trivial) (fun i H x H' y => ⟨y.1, ?_⟩) (fun i x o Q' hx q => ?_) ?_⟩
          · obtain ⟨_, c, hc, rfl⟩ := y
            rw [List.getElem?_map, Array.getElem?_toList, hc]
            rfl
          · obtain ⟨c, rfl, _⟩ := at_sgn hx
            rw [letV_sgn] at q
            tm_at "xst"
            refine q_leS ?_
            rw [str_a, lt1]
            tm_at "xst"
            refine i_ndec (fun h4 => ?_) (fun h4 => ?_)
            · tm_at "xst"
              refine q_leS ?_
              rw [str_z, lt1]
              have e : isLet c = !decide (122 < c) := by
                unfold isLet
                by_cases h5 : 122 < c
                · rw [decide_eq_true h5, decide_eq_false (show ¬ c ≤ 122 by omega)]; simp
                · rw [decide_eq_false h5, decide_eq_true (show c ≤ 122 by omega), decide_eq_true (show 97 ≤ c by omega)]; rfl
              rw [e] at q
              exact q
            · have e : isLet c = false := by
                unfold isLet
                rw [decide_eq_false (show ¬ 97 ≤ c by omega)]; rfl
              rw [e] at q
              exact q
          · tm_at "xst"
            refine ⟨D, s.cps.toList.map isLet, rfl, SqL.of (by rw [upd_same, List.map_map, List.map_map]; congr 2; exact List.map_congr_left fun c _ => letV_sgn c), ?_⟩
            have e : isNameV (.str s) = (s.cps.toList.map isLet).all id := by
              simp only [isNameV, isNameS]
              rw [decide_eq_true (show 1 ≤ s.length by omega), decide_eq_true (show s.length ≤ 8 by omega), List.all_map]
              rfl
            rw [← e]
            exact k _ (Same.new hD)
      · tm_at "xst"
        have e : isNameV (.str s) = false := by
          simp only [isNameV, isNameS]
          rw [decide_eq_false (show ¬ 1 ≤ s.length by omega)]
          simp
        rw [e] at k0
        exact k0
end
end Toy
namespace Toy
open PySem PySem.Spec PyProof.Rows L2 Kx
def sp_law (K : PySem.W.Frag) : Sp := fun vs H Q _ => ∃ (a : Addr) (ns : List Int), vs = [.ref a] ∧ SqL K H a (ns.map V.int) ∧ ns.length ≤ 63 ∧ ∀ H', Q (.bl true) H'
theorem signs_let : ∀ c ∈ (("abcdefghijklmnopqrstuvwxyz" : Str)).cps.toList, isLet c = true := by decide +kernel
theorem bad_signs : ∀ v ∈ [V.str "A", V.str " ", V.str "1", V.str "_", V.str "\n", V.str "-"], ∃ c, v = sgn c ∧ isLet c = false := by
  have h : ∀ s ∈ [("A" : Str), " ", "1", "_", "\n", "-"], s = ⟨#[s.cps.getD 0 0]⟩ ∧ isLet (s.cps.getD 0 0) = false := by decide +kernel
  intro v hv
  have e : v ∈ [("A" : Str), " ", "1", "_", "\n", "-"].map V.str := hv
  obtain ⟨s, hs, rfl⟩ := List.mem_map.mp e
  exact ⟨_, congrArg V.str (h s hs).1, (h s hs).2⟩
section
variable {P : Program} {w : World} {K : PySem.W.Frag} {mg : Str → Option Value} {base : Heap}
theorem ok_law (T : Txt K mg) : FnOk P w K mg base CX0 4 T.a_law T.d_law ["_law_script"] (sp_law K) := by
  have nd := sc_law.nd
  refine T.F_law.ok sc_law (fun vs H Q E h => ?_) (fun cdv A outer s H vs Q E hr h => ?_)
  · obtain ⟨p, ns, rfl, _⟩ := h; rfl
  · obtain ⟨a, ns, rfl, hs, hl, k⟩ := h
    have hu := hu_of hr
    refine ⟨_, (pss_cons (ps_for PassesOwn.never rfl (pi_range1 (by rfl) T.no_range (pa_cons (pe_callB (call_max2 rfl) (by rfl) T.no_max (by decide +kernel) (pa_cons (pe_int) (pa_cons (pe_callB (call_min2 rfl) (by rfl) T.no_min (by decide +kernel) (pa_cons (pe_callB call_len (by rfl) T.no_len (by decide +kernel) (pa_cons (pv 0) pa_nil)) (pa_cons (pe_int) pa_nil))) pa_nil))) pa_nil)) (pg_name (i := 1) nd rfl (by first | exact Or.inl rfl | exact Or.inr rfl)) (pss_cons (ps_set (i := 2) nd rfl (by first | exact Or.inl rfl | exact Or.inr rfl) (pe_call (ok__law_pool T) (hr.mono (by decide)) rfl T.g__law_pool T.k__law_pool T.b__law_pool .nil pass0 (pa_cons (pv 0) (pa_cons (pv 1) pa_nil))))
      (pss_cons (ps_set (i := 3) nd rfl (by first | exact Or.inl rfl | exact Or.inr rfl) (pe_str))
      (pss_cons (ps_set (i := 4) nd rfl (by first | exact Or.inl rfl | exact Or.inr rfl) (pe_join (pe_str) (pe_lc (own := [("_law_turn", 10)]) rfl nd (pi_range1 (by rfl) T.no_range (pa_cons (pe_op op_add (pe_int) (pe_call (ok__law_draw T) (hr.mono (by decide)) rfl T.g__law_draw T.k__law_draw T.b__law_draw .nil pass0 (pa_cons (pv 2) (pa_cons (pe_int) pa_nil)))) pa_nil)) (blkOk_by (N := ["_law_script", "_law_k", "_law_pool_here", "_law_signs", "_law_name", "_law_at", "_law_sign", "_law_odd", "_law_number", "_law_good", "_law_turn"]) (sc := defScope s_law) (by decide +kernel)) (fun _ _ _ _ _ => (pg_name (i := 10) nd rfl (by first | exact Or.inl rfl | exact Or.inr rfl))) (fun _ _ _ _ _ => pts_nil) (fun _ _ _ _ _ => (pe_call (ok__law_pick T) (hr.mono (by decide)) rfl T.g__law_pick T.k__law_pick T.b__law_pick .nil pass0 (pa_cons (pv 2) (pa_cons (pv 3) pa_nil)))))))
      (pss_cons (ps_if (PW.pt (pw_or (pt_cmpR op_notBl (pe_call (ok_is_name T) (hr.mono (by decide)) rfl T.g_is_name T.k_is_name T.b_is_name .nil pass0 (pa_cons (pv 4) pa_nil)) (pe_bl) (nomark _)) (pw_or1 (pt_cmpR op_notBl (pe_call (ok_is_name T) (hr.mono (by decide)) rfl T.g_is_name T.k_is_name T.b_is_name .nil pass0 (pa_cons (pe_op op_add_str (pv 4) (pe_str)) pa_nil)) (pe_bl) (nomark _))))) (pss_one (ps_ret (pe_bl))) pss_nil)
      (pss_cons (ps_set (i := 5) nd rfl (by first | exact Or.inl rfl | exact Or.inr rfl) (pe_call (ok__law_draw T) (hr.mono (by decide)) rfl T.g__law_draw T.k__law_draw T.b__law_draw .nil pass0 (pa_cons (pv 2) (pa_cons (pe_callB call_len (by rfl) T.no_len (by decide +kernel) (pa_cons (pv 4) pa_nil)) pa_nil))))
      (pss_cons (ps_for PassesOwn.never rfl (pi_list (pe_lst (pa_cons (pe_str) (pa_cons (pe_str) (pa_cons (pe_str) (pa_cons (pe_str) (pa_cons (pe_str) (pa_cons (pe_str) pa_nil)))))))) (pg_name (i := 6) nd rfl (by first | exact Or.inl rfl | exact Or.inr rfl)) (pss_one (ps_if (pt_cmpR op_notBl (pe_call (ok_is_name T) (hr.mono (by decide)) rfl T.g_is_name T.k_is_name T.b_is_name .nil pass0 (pa_cons (pe_op op_add_str (pe_op op_add_str (pe_slice sl_str (pv 4) po_none (po_some (pv 5))) (pv 6)) (pe_slice sl_str (pv 4) (po_some (pe_op op_add (pv 5) (pe_int))) po_none)) pa_nil)) (pe_bl) (nomark _)) (pss_one (ps_ret (pe_bl))) pss_nil)))
      (pss_cons (ps_for PassesOwn.never rfl (pi_list (pe_lst (pa_cons (pe_str) (pa_cons (pe_non) (pa_cons (pe_int) (pa_cons (pe_bl) (pa_cons (pe_tup (pa_cons (pe_str) pa_nil)) (pa_cons (pe_lst (pa_cons (pe_str) pa_nil)) (pa_cons (pe_dnewK) pa_nil))))))))) (pg_name (i := 7) nd rfl (by first | exact Or.inl rfl | exact Or.inr rfl)) (pss_one (ps_if (pt_cmpR op_notBl (pe_call (ok_is_name T) (hr.mono (by decide)) rfl T.g_is_name T.k_is_name T.b_is_name .nil pass0 (pa_cons (pv 7) pa_nil)) (pe_bl) (nomark _)) (pss_one (ps_ret (pe_bl))) pss_nil)))
      (pss_cons (ps_set (i := 8) nd rfl (by first | exact Or.inl rfl | exact Or.inr rfl) (pe_call (ok__law_draw T) (hr.mono (by decide)) rfl T.g__law_draw T.k__law_draw T.b__law_draw .nil pass0 (pa_cons (pv 2) (pa_cons (pe_int) pa_nil))))
      (pss_cons (ps_for PassesOwn.never rfl (pi_list (pe_lst (pa_cons (pe_tup (pa_cons (pe_str) pa_nil)) (pa_cons (pe_tup (pa_cons (pe_str) (pa_cons (pv 8) pa_nil))) (pa_cons (pe_tup (pa_cons (pe_str) (pa_cons (pv 8) pa_nil))) pa_nil))))) (pg_name (i := 9) nd rfl (by first | exact Or.inl rfl | exact Or.inr rfl)) (pss_one (ps_if (PW.pt (pw_or (pt_cmpR op_notBl (pe_call (ok_is_memory T) (hr.mono (by decide)) rfl T.g_is_memory T.k_is_memory T.b_is_memory .nil pass0 (pa_cons (pv 9) pa_nil)) (pe_bl) (nomark _)) (pw_or1 (pt_cmpR op_notBl (pe_call (ok_is_memory T) (hr.mono (by decide)) rfl T.g_is_memory T.k_is_memory T.b_is_memory .nil pass0 (pa_cons (pe_callTy call_list_of (by rfl) T.no_list (by decide +kernel) (pa_cons (pv 9) pa_nil)) pa_nil)) (pe_bl) (nomark _))))) (pss_one (ps_ret (pe_bl))) pss_nil)))
      (pss_cons (ps_for PassesOwn.never rfl (pi_list (pe_lst (pa_cons (pe_non) (pa_cons (pe_str) (pa_cons (pe_tup pa_nil) (pa_cons (pe_tup (pa_cons (pe_str) (pa_cons (pe_int) pa_nil))) (pa_cons (pe_tup (pa_cons (pe_str) pa_nil)) (pa_cons (pe_tup (pa_cons (pe_str) (pa_cons (pe_un un_neg (pe_int)) pa_nil))) (pa_cons (pe_tup (pa_cons (pe_str) (pa_cons (pe_int) pa_nil))) (pa_cons (pe_tup (pa_cons (pe_str) (pa_cons (pe_bl) pa_nil))) pa_nil)))))))))) (pg_name (i := 7) nd rfl (by first | exact Or.inl rfl | exact Or.inr rfl)) (pss_one (ps_if (pt_cmpR op_notBl (pe_call (ok_is_memory T) (hr.mono (by decide)) rfl T.g_is_memory T.k_is_memory T.b_is_memory .nil pass0 (pa_cons (pv 7) pa_nil)) (pe_bl) (nomark _)) (pss_one (ps_ret (pe_bl))) pss_nil)))
      (pss_one (ps_for PassesOwn.never rfl (pi_list (pe_lst (pa_cons (pe_tup (pa_cons (pe_str) (pa_cons (pe_non) pa_nil))) (pa_cons (pe_tup (pa_cons (pe_str) (pa_cons (pe_int) pa_nil))) (pa_cons (pe_tup (pa_cons (pe_str) (pa_cons (pe_int) (pa_cons (pe_int) pa_nil)))) (pa_cons (pe_tup (pa_cons (pe_int) (pa_cons (pe_int) pa_nil))) (pa_cons (pe_tup (pa_cons (pe_lst (pa_cons (pe_str) pa_nil)) (pa_cons (pe_int) pa_nil))) (pa_cons (pe_tup (pa_cons (pe_str) (pa_cons (pv 8) pa_nil))) pa_nil)))))))) (pg_name (i := 7) nd rfl (by first | exact Or.inl rfl | exact Or.inr rfl)) (pss_one (ps_if (pt_cmpR op_notBl (pe_call (ok_is_memory T) (hr.mono (by decide)) rfl T.g_is_memory T.k_is_memory T.b_is_memory .nil pass0 (pa_cons (pv 7) pa_nil)) (pe_bl) (nomark _)) (pss_one (ps_ret (pe_bl))) pss_nil)))))))))))))))
      (pss_one (ps_ret (pe_bl)))), ?_⟩
    tm_at "xst"
    refine q_lenL hs ?_
    tm_at "xst"
    refine ⟨_, rfl, by split <;> split <;> omega, by split <;> split <;> omega, for_range (fun _ σ' H' => (∃ v1 v2 v3 v4 v5 v6 v7 v8 v9 v10, σ' = [some (.ref a), v1, v2, v3, v4, v5, v6, v7, v8, v9, v10]) ∧ Same H H') ⟨⟨_, _, _, _, _, _, _, _, _, _, rfl⟩, Same.refl H⟩ ?_ ?_⟩
    · rintro i σ' H' hi ⟨⟨v1, v2, v3, v4, v5, v6, v7, v8, v9, v10, rfl⟩, e⟩
      have hk : i < 2 := by
        revert hi
        split <;> split <;> omega
      tm_at "xst"
      refine ⟨a, ns, (0 + i), rfl, e.seq hs, hl, by omega, by omega, fun p H1 hp P1 e1 => ?_⟩
      have hp0 : H p = none := e.free hp
      have e01 := e.trans e1
      tm_at "xst"
      refine ⟨p, 8, rfl, P1, by decide, by decide, fun r H2 r0 r1 P2 b2 => ?_⟩
      tm_at "xst"
      refine ⟨_, rfl, by omega, by omega, fun D hD => ?_⟩
      have nDp : D ≠ p := fun z => by obtain ⟨o, ho⟩ := P2.there; rw [z, ho] at hD; cases hD
      refine lc_it (n := (1 + r).toNat) walk_range (fun i H' => Pool H' p ∧ But p H2 H' ∧ ∃ cs : List Nat, cs.length = i ∧ (∀ c ∈ cs, isLet c = true) ∧ H' D = some (.lst (cs.map sgn))) ⟨P2.but hD, But.new hD, [], rfl, (fun _ h => nomatch h), upd_same⟩ (fun _ _ _ _ => trivial) ?_ ?_
      · rintro j x H3 H3' hj ⟨P3, b3, cs, hcs, hlet, hD3⟩ y
        obtain ⟨rfl, rfl⟩ := y
        refine ⟨rfl, ?_⟩
        tm_at "xst"
        refine ⟨p, _, rfl, P3, .inl ⟨_, rfl, by decide +kernel, by decide +kernel, fun c H4 hc P4 b4 => ?_⟩⟩
        have hD4 := b4 D _ nDp hD3
        refine ⟨_, hD4, ?_, ?_, ?_, cs ++ [c], ?_, ?_, ?_⟩
        · rw [List.length_map, hcs]; exact Nat.lt_of_lt_of_le (show j < 100 by omega) (by decide)
        · obtain ⟨x, z, h, hh⟩ := P4.ex
          exact ⟨x, z, by rw [upd_ne nDp.symm]; exact h, hh⟩
        · intro q o hq hh
          have n2 : q ≠ D := ne_of_none hh hD
          rw [upd_ne n2]
          exact b4 q o hq (b3 q o hq hh)
        · rw [List.length_append, hcs]; rfl
        · intro d hd
          rcases List.mem_append.mp hd with hd | hd
          · exact hlet d hd
          · rw [List.mem_singleton.mp hd]; exact signs_let c hc
        · rw [upd_same, List.map_append]; rfl
      rintro H3 ⟨P3, b3, cs, hcs, hlet, hD3⟩
      refine ⟨_, D, cs.map (fun c => (⟨#[c]⟩ : Str)), rfl, rfl, .inl (SqL.of (by rw [hD3, List.map_map]; rfl)), ?_, ?_⟩
      · rw [sum_ones, List.length_map, hcs]
        show (1 + r).toNat + (1 + r).toNat * 0 ≤ _
        omega
      have hzc := join_sgn cs
      generalize Txt.join ("" : Str) (cs.map fun c => (⟨#[c]⟩ : Str)) = z at hzc ⊢
      have hzl : z.length = (1 + r).toNat := by rw [← tl_len, hzc, hcs]
      have hzs : z.length ≤ sizeLine := Nat.le_trans (show z.length ≤ 8 by omega) (by decide)
      have good : isNameV (.str z) = true := isName_of (by omega) (by omega) (by rw [hzc]; exact hlet)
      tm_at "xst"
      refine ⟨_, rfl, .str z, (fun s e => by cases e; omega), fun H4 e4 => ?_⟩
      rw [good]
      tm_at "xst"
      tm_at "xdec"
      tm_at "xst"
      refine ⟨_, _, rfl, rfl, Nat.le_trans (Nat.add_le_add (show z.length ≤ 8 by omega) (by decide +kernel : ("abcdefgh" : Str).length ≤ 8)) (by decide), ?_⟩
      have l8 : ("abcdefgh" : Str).length = 8 := by decide +kernel
      have bad8 : isNameV (.str (z ++ ("abcdefgh" : Str))) = false := isName_long (by rw [len_app, l8]; omega)
      tm_at "xst"
      refine ⟨_, rfl, .str _, (fun s e => by cases e; rw [len_app, l8]; omega), fun H5 e5 => ?_⟩
      rw [bad8]
      tm_at "xst"
      tm_at "xdec"
      tm_at "xst"
      have P5 : Pool H5 p := (P3.same e4).same e5
      refine q_lenS hzs ?_
      tm_at "xst"
      refine ⟨p, _, rfl, P5, by omega, by omega, fun at_ H6 a0 a1 P6 b6 => ?_⟩
      have s06 : Same H H6 := Kx.Same.but (((Kx.Same.but (Kx.Same.but e01 hp0 b2) hp0 b3).trans e4).trans e5) hp0 b6
      tm_at "xst"
      refine ⟨_, rfl, ⟨_, SqL.of upd_same⟩, for_chk (SqL.of upd_same) ⟨_, rfl⟩ (fun x hx H7 N e7 hN => ?_) (fun y7 H7 e7 => ?_)⟩
      · obtain ⟨c, rfl, hc⟩ := bad_signs x hx
        tm_at "xst"
        refine ⟨z, rfl, hzs, ?_⟩
        tm_at "xst"
        have c1 := cutS_length z none (some at_)
        have c2 := cutS_length z (some (at_ + 1)) none
        refine ⟨_, _, rfl, rfl, Nat.le_trans (Nat.add_le_add c1 (Nat.le_refl 1)) (Nat.le_trans (show z.length + 1 ≤ 100 by omega) (by decide)), ?_⟩
        tm_at "xst"
        refine ⟨z, rfl, hzs, ?_⟩
        refine ⟨_, _, rfl, rfl, ?_, ?_⟩
        · rw [len_app]
          exact Nat.le_trans (Nat.add_le_add (Nat.add_le_add c1 (Nat.le_refl 1)) c2) (Nat.le_trans (show z.length + 1 + z.length ≤ 100 by omega) (by decide))
        have hl2 : (cutS z none (some at_) ++ (⟨#[c]⟩ : Str) ++ cutS z (some (at_ + 1)) none).length ≤ 100 := by
          rw [len_app, len_app]
          exact Nat.le_trans (Nat.add_le_add (Nat.add_le_add c1 (Nat.le_refl 1)) c2) (show z.length + 1 + z.length ≤ 100 by omega)
        have hbad : isNameV (.str (cutS z none (some at_) ++ (⟨#[c]⟩ : Str) ++ cutS z (some (at_ + 1)) none)) = false := isName_bad (c := c) (by rw [tl_app, tl_app]; simp) hc
        tm_at "xst"
        refine ⟨_, rfl, .str _, (fun s e => by cases e; omega), fun H8 e8 => ?_⟩
        rw [hbad]
        tm_at "xst"
        tm_at "xdec"
        tm_at "xst"
        exact hN _ _ (e7.trans e8)
      -- values that are no names
      tm_at "xst"
      refine ⟨_, rfl, ⟨_, SqL.of upd_same⟩, for_chkR (SqL.of upd_same) ⟨_, rfl⟩ (fun H v => Any H v ∧ isNameV v = false ∧ ∀ s, v = .str s → s.length ≤ 100000) (fun v H' h e => ⟨h.1.same e, h.2⟩) ?_ (fun x H8 N hx e8 hN => ?_) (fun y8 H8 e8 => ?_)⟩
      · tm_at "xeach"
        all_goals refine ⟨by tm_at "xany", by first | rfl | decide +kernel, fun s e => ?_⟩
        all_goals first | (cases e; decide +kernel) | cases e
      · tm_at "xst"
        refine ⟨x, rfl, hx.1, hx.2.2, fun H9 e9 => ?_⟩
        rw [hx.2.1]
        tm_at "xst"
        tm_at "xdec"
        tm_at "xst"
        exact hN _ _ (e8.trans e9)
      tm_at "xst"
      have P8 : Pool H8 p := by tm_at "xpool"
      have s08 : Same H H8 := by tm_at "xsame"
      refine ⟨p, 10, rfl, P8, by decide, by decide, fun nb H9 n0 n1 P9 b9 => ?_⟩
      have s09 : Same H H9 := Kx.Same.but s08 hp0 b9
      have toM : isIntTo 9 (.int nb) = true := by
        show (decide (0 ≤ nb) && decide (nb ≤ 9)) = true
        rw [decide_eq_true n0, decide_eq_true (by omega)]
        rfl
      -- memories
      tm_at "xst"
      refine ⟨_, rfl, ⟨_, SqL.of upd_same⟩, for_chkR (SqL.of upd_same) ⟨_, rfl⟩ (fun H v => ∃ t ys, v = .ref t ∧ H t = some (.tup ys) ∧ isMemT ys = true ∧ ∀ y ∈ ys, Any H y) (fun v H' ⟨t, ys, h1, h2, h3, h4⟩ e => ⟨t, ys, h1, e _ _ h2, h3, fun y hy => (h4 y hy).same e⟩) ?_ (fun x H10 N hx e10 hN => ?_) (fun y10 H10 e10 => ?_)⟩
      · tm_at "xeach"
        all_goals refine ⟨_, _, rfl, by tm_at "xlook", ?_, ?_⟩
        all_goals first | (tm_at "xeach"; all_goals (tm_at "xany")) | skip
        · decide +kernel
        · exact (congrArg (fun b => (isWordV "times" (.str "times") || isWordV "sum" (.str "times")) && b) toM).trans (by decide +kernel)
        · exact (congrArg (fun b => (isWordV "times" (.str "sum") || isWordV "sum" (.str "sum")) && b) toM).trans (by decide +kernel)
      · obtain ⟨t, ys, rfl, ht, hm, hy⟩ := hx
        tm_at "xst"
        refine ⟨_, rfl, .tup ht, fun a xs e h => ?_, ?_⟩
        · cases e; rw [ht] at h; cases h; exact hy
        rw [isMemH_tup ht, hm]
        tm_at "xst"
        tm_at "xdec"
        tm_at "xst"
        refine ⟨t, ys, rfl, .inr (SqT.of ht), fun l hl => ?_⟩
        tm_at "xst"
        refine ⟨_, rfl, .lst upd_same, fun a xs e h => ?_, ?_⟩
        · cases e; rw [upd_same] at h; cases h
        rw [isMemH_lst upd_same]
        tm_at "xst"
        tm_at "xdec"
        tm_at "xst"
        exact hN _ _ (e10.trans (Kx.Same.new hl))
      tm_at "xst"
      refine ⟨_, rfl, ⟨_, SqL.of upd_same⟩, for_chkR (SqL.of upd_same) ⟨_, rfl⟩ (fun H v => Any2 H v ∧ isMemH H v = false) (fun v H' h e => ⟨h.1.same e, (isMemH_same h.1.1 e).trans h.2⟩) ?_ (fun x H11 N hx e11 hN => ?_) (fun y11 H11 e11 => ?_)⟩
      · tm_at "xeach"
        all_goals refine ⟨by tm_at "xany2", ?_⟩
        all_goals first | rfl | exact (isMemH_tup (by tm_at "xlook")).trans (by decide +kernel)
      · tm_at "xst"
        refine ⟨x, rfl, hx.1.1, hx.1.2, ?_⟩
        rw [hx.2]
        tm_at "xst"
        tm_at "xdec"
        tm_at "xst"
        exact hN _ _ e11
      tm_at "xst"
      refine ⟨_, rfl, ⟨_, SqL.of upd_same⟩, for_chkR (SqL.of upd_same) ⟨_, rfl⟩ (fun H v => Any2 H v ∧ isMemH H v = false) (fun v H' h e => ⟨h.1.same e, (isMemH_same h.1.1 e).trans h.2⟩) ?_ (fun x H12 N hx e12 hN => ?_) (fun y12 H12 e12 => ?_)⟩
      · tm_at "xeach"
        all_goals refine ⟨by tm_at "xany2", ?_⟩
        all_goals first | rfl | exact (isMemH_tup (by tm_at "xlook")).trans (by decide +kernel) | exact (isMemH_tup (by tm_at "xlook")).trans rfl
      · tm_at "xst"
        refine ⟨x, rfl, hx.1.1, hx.1.2, ?_⟩
        rw [hx.2]
        tm_at "xst"
        tm_at "xdec"
        tm_at "xst"
        exact hN _ _ e12
      exact ⟨⟨_, _, _, _, _, _, _, _, _, _, rfl⟩, by tm_at "xsame"⟩
    · rintro σ' H' ⟨⟨v1, v2, v3, v4, v5, v6, v7, v8, v9, v10, rfl⟩, e⟩
      tm_at "xst"
      exact k H'
end
end Toy
namespace Toy
open PySem PySem.Spec PyProof.Rows L2 Kx
theorem all_mk {l : PySem.W.OpenLaw} {w : World} {K : PySem.W.Frag} {h : Heap} {mg : Str → Option Value} {fa : Addr} (X : K.In h) (G : h.Ns mainGlobals mg) (hfa : mg "law" = some (.ref fa))
    {f1 : Addr} {od1 an1 : Option Addr} {sl1 : Array (Option Value)} {oc1 kV1 dc1 pm1 cd1 ct1 : Value}
    {f2 : Addr} {od2 an2 : Option Addr} {sl2 : Array (Option Value)} {oc2 kV2 dc2 pm2 cd2 ct2 : Value}
    {f3 : Addr} {od3 an3 : Option Addr} {sl3 : Array (Option Value)} {oc3 kV3 dc3 pm3 cd3 ct3 : Value}
    {f4 : Addr} {od4 an4 : Option Addr} {sl4 : Array (Option Value)} {oc4 kV4 dc4 pm4 cd4 ct4 : Value}
    {f5 : Addr} {od5 an5 : Option Addr} {sl5 : Array (Option Value)} {oc5 kV5 dc5 pm5 cd5 ct5 : Value}
    {f6 : Addr} {od6 an6 : Option Addr} {sl6 : Array (Option Value)} {oc6 kV6 dc6 pm6 cd6 ct6 : Value}
    {f7 : Addr} {od7 an7 : Option Addr} {sl7 : Array (Option Value)} {oc7 kV7 dc7 pm7 cd7 ct7 : Value}
    {f8 : Addr} {od8 an8 : Option Addr} {sl8 : Array (Option Value)} {oc8 kV8 dc8 pm8 cd8 ct8 : Value}
    {f9 : Addr} {od9 an9 : Option Addr} {sl9 : Array (Option Value)} {oc9 kV9 dc9 pm9 cd9 ct9 : Value}
    {tk_LONGEST_NAME : Tok}
    {tk_TOP_REMEMBERED : Tok}
    (a1 : PySem.W.nsIn K mainGlobals "_law_draw" = some (some (.ref f1)))
    (l1 : K.lookup f1 = some ⟨oc1, od1, .func (PySem.W.fnOf "_law_draw" "_law_draw" (defArgs s__law_draw) (defBody s__law_draw) (defScope s__law_draw) .none kV1 dc1 pm1 an1 cd1 ct1), sl1⟩)
    (c1 : PySem.W.codeIn K cd1 "_law_draw" = true)
    (k1 : PySem.W.keepIn K (.ref f1) = true)
    (a2 : PySem.W.nsIn K mainGlobals "_law_pick" = some (some (.ref f2)))
    (l2 : K.lookup f2 = some ⟨oc2, od2, .func (PySem.W.fnOf "_law_pick" "_law_pick" (defArgs s__law_pick) (defBody s__law_pick) (defScope s__law_pick) .none kV2 dc2 pm2 an2 cd2 ct2), sl2⟩)
    (c2 : PySem.W.codeIn K cd2 "_law_pick" = true)
    (k2 : PySem.W.keepIn K (.ref f2) = true)
    (a3 : PySem.W.nsIn K mainGlobals "_law_pool" = some (some (.ref f3)))
    (l3 : K.lookup f3 = some ⟨oc3, od3, .func (PySem.W.fnOf "_law_pool" "_law_pool" (defArgs s__law_pool) (defBody s__law_pool) (defScope s__law_pool) .none kV3 dc3 pm3 an3 cd3 ct3), sl3⟩)
    (c3 : PySem.W.codeIn K cd3 "_law_pool" = true)
    (k3 : PySem.W.keepIn K (.ref f3) = true)
    (a4 : PySem.W.nsIn K mainGlobals "is_integer" = some (some (.ref f4)))
    (l4 : K.lookup f4 = some ⟨oc4, od4, .func (PySem.W.fnOf "is_integer" "is_integer" (defArgs s_is_integer) (defBody s_is_integer) (defScope s_is_integer) .none kV4 dc4 pm4 an4 cd4 ct4), sl4⟩)
    (c4 : PySem.W.codeIn K cd4 "is_integer" = true)
    (k4 : PySem.W.keepIn K (.ref f4) = true)
    (a5 : PySem.W.nsIn K mainGlobals "is_integer_to" = some (some (.ref f5)))
    (l5 : K.lookup f5 = some ⟨oc5, od5, .func (PySem.W.fnOf "is_integer_to" "is_integer_to" (defArgs s_is_integer_to) (defBody s_is_integer_to) (defScope s_is_integer_to) .none kV5 dc5 pm5 an5 cd5 ct5), sl5⟩)
    (c5 : PySem.W.codeIn K cd5 "is_integer_to" = true)
    (k5 : PySem.W.keepIn K (.ref f5) = true)
    (a6 : PySem.W.nsIn K mainGlobals "is_word" = some (some (.ref f6)))
    (l6 : K.lookup f6 = some ⟨oc6, od6, .func (PySem.W.fnOf "is_word" "is_word" (defArgs s_is_word) (defBody s_is_word) (defScope s_is_word) .none kV6 dc6 pm6 an6 cd6 ct6), sl6⟩)
    (c6 : PySem.W.codeIn K cd6 "is_word" = true)
    (k6 : PySem.W.keepIn K (.ref f6) = true)
    (a7 : PySem.W.nsIn K mainGlobals "is_memory" = some (some (.ref f7)))
    (l7 : K.lookup f7 = some ⟨oc7, od7, .func (PySem.W.fnOf "is_memory" "is_memory" (defArgs s_is_memory) (defBody s_is_memory) (defScope s_is_memory) .none kV7 dc7 pm7 an7 cd7 ct7), sl7⟩)
    (c7 : PySem.W.codeIn K cd7 "is_memory" = true)
    (k7 : PySem.W.keepIn K (.ref f7) = true)
    (a8 : PySem.W.nsIn K mainGlobals "is_name" = some (some (.ref f8)))
    (l8 : K.lookup f8 = some ⟨oc8, od8, .func (PySem.W.fnOf "is_name" "is_name" (defArgs s_is_name) (defBody s_is_name) (defScope s_is_name) .none kV8 dc8 pm8 an8 cd8 ct8), sl8⟩)
    (c8 : PySem.W.codeIn K cd8 "is_name" = true)
    (k8 : PySem.W.keepIn K (.ref f8) = true)
    (a9 : PySem.W.nsIn K mainGlobals "law" = some (some (.ref f9)))
    (l9 : K.lookup f9 = some ⟨oc9, od9, .func (PySem.W.fnOf "law" "law" (defArgs s_law) (defBody s_law) (defScope s_law) .none kV9 dc9 pm9 an9 cd9 ct9), sl9⟩)
    (c9 : PySem.W.codeIn K cd9 "law" = true)
    (k9 : PySem.W.keepIn K (.ref f9) = true)
    (z_all : PySem.W.nsIn K mainGlobals "all" = some none)
    (z_bool : PySem.W.nsIn K mainGlobals "bool" = some none)
    (z_int : PySem.W.nsIn K mainGlobals "int" = some none)
    (z_isinstance : PySem.W.nsIn K mainGlobals "isinstance" = some none)
    (z_len : PySem.W.nsIn K mainGlobals "len" = some none)
    (z_list : PySem.W.nsIn K mainGlobals "list" = some none)
    (z_max : PySem.W.nsIn K mainGlobals "max" = some none)
    (z_min : PySem.W.nsIn K mainGlobals "min" = some none)
    (z_range : PySem.W.nsIn K mainGlobals "range" = some none)
    (z_str : PySem.W.nsIn K mainGlobals "str" = some none)
    (z_tuple : PySem.W.nsIn K mainGlobals "tuple" = some none)
    (c_LONGEST_NAME : PySem.W.nsIn K mainGlobals "LONGEST_NAME" = some (some (.int 8 tk_LONGEST_NAME)))
    (c_TOP_REMEMBERED : PySem.W.nsIn K mainGlobals "TOP_REMEMBERED" = some (some (.int 9 tk_TOP_REMEMBERED)))
    : ∃ fd : FuncData, (∀ (s : Shared) (v : Value), BindsTo s fd ⟨[v], []⟩ [("_law_script", v)]) ∧ ∀ base : Heap, K.In base → base.Ns mainGlobals mg → FnOk l.prog w K mg base CX0 4 fa fd ["_law_script"] (sp_law K) := by
  have e := hfa.symm.trans (PySem.W.mg_of X G a9)
  cases e
  have F1 := fun_mk (st := s__law_draw) l1 c1 k1
  have B1 := F1.binds (ps := ["_law_pool_here", "_law_many"]) fun _ _ _ _ _ _ us hl => match us, hl with | [_, _], _ => rfl
  have F2 := fun_mk (st := s__law_pick) l2 c2 k2
  have B2 := F2.binds (ps := ["_law_pool_here", "_law_row"]) fun _ _ _ _ _ _ us hl => match us, hl with | [_, _], _ => rfl
  have F3 := fun_mk (st := s__law_pool) l3 c3 k3
  have B3 := F3.binds (ps := ["_law_script", "_law_k"]) fun _ _ _ _ _ _ us hl => match us, hl with | [_, _], _ => rfl
  have F4 := fun_mk (st := s_is_integer) l4 c4 k4
  have B4 := F4.binds (ps := ["value"]) fun _ _ _ _ _ _ us hl => match us, hl with | [_], _ => rfl
  have F5 := fun_mk (st := s_is_integer_to) l5 c5 k5
  have B5 := F5.binds (ps := ["value", "top"]) fun _ _ _ _ _ _ us hl => match us, hl with | [_, _], _ => rfl
  have F6 := fun_mk (st := s_is_word) l6 c6 k6
  have B6 := F6.binds (ps := ["value", "word"]) fun _ _ _ _ _ _ us hl => match us, hl with | [_, _], _ => rfl
  have F7 := fun_mk (st := s_is_memory) l7 c7 k7
  have B7 := F7.binds (ps := ["value"]) fun _ _ _ _ _ _ us hl => match us, hl with | [_], _ => rfl
  have F8 := fun_mk (st := s_is_name) l8 c8 k8
  have B8 := F8.binds (ps := ["value"]) fun _ _ _ _ _ _ us hl => match us, hl with | [_], _ => rfl
  have F9 := fun_mk (st := s_law) l9 c9 k9
  have B9 := F9.binds (ps := ["_law_script"]) fun _ _ _ _ _ _ us hl => match us, hl with | [_], _ => rfl
  let T : Txt K mg := { a__law_draw := f1, d__law_draw := _, F__law_draw := F1, g__law_draw := PySem.W.mg_of X G a1, k__law_draw := k1, b__law_draw := B1, a__law_pick := f2, d__law_pick := _, F__law_pick := F2, g__law_pick := PySem.W.mg_of X G a2, k__law_pick := k2, b__law_pick := B2, a__law_pool := f3, d__law_pool := _, F__law_pool := F3, g__law_pool := PySem.W.mg_of X G a3, k__law_pool := k3, b__law_pool := B3, a_is_integer := f4, d_is_integer := _, F_is_integer := F4, g_is_integer := PySem.W.mg_of X G a4, k_is_integer := k4, b_is_integer := B4, a_is_integer_to := f5, d_is_integer_to := _, F_is_integer_to := F5, g_is_integer_to := PySem.W.mg_of X G a5, k_is_integer_to := k5, b_is_integer_to := B5, a_is_word := f6, d_is_word := _, F_is_word := F6, g_is_word := PySem.W.mg_of X G a6, k_is_word := k6, b_is_word := B6, a_is_memory := f7, d_is_memory := _, F_is_memory := F7, g_is_memory := PySem.W.mg_of X G a7, k_is_memory := k7, b_is_memory := B7, a_is_name := f8, d_is_name := _, F_is_name := F8, g_is_name := PySem.W.mg_of X G a8, k_is_name := k8, b_is_name := B8, a_law := fa, d_law := _, F_law := F9, g_law := PySem.W.mg_of X G a9, k_law := k9, b_law := B9, no_all := PySem.W.mg_none_of X G z_all, no_bool := PySem.W.mg_none_of X G z_bool, no_int := PySem.W.mg_none_of X G z_int, no_isinstance := PySem.W.mg_none_of X G z_isinstance, no_len := PySem.W.mg_none_of X G z_len, no_list := PySem.W.mg_none_of X G z_list, no_max := PySem.W.mg_none_of X G z_max, no_min := PySem.W.mg_none_of X G z_min, no_range := PySem.W.mg_none_of X G z_range, no_str := PySem.W.mg_none_of X G z_str, no_tuple := PySem.W.mg_none_of X G z_tuple, t_LONGEST_NAME := tk_LONGEST_NAME, g_LONGEST_NAME := PySem.W.mg_of X G c_LONGEST_NAME, t_TOP_REMEMBERED := tk_TOP_REMEMBERED, g_TOP_REMEMBERED := PySem.W.mg_of X G c_TOP_REMEMBERED }
  exact ⟨T.d_law, fun s v => .of_eq rfl, fun base _ _ => ok_law T⟩
theorem walk {l : PySem.W.OpenLaw} {q : Program} {loose : List Str} {XP : (Str → Option Value) → Heap → Prop} {YP : World → Heap → Prop} {d : DefRec} {K : Params → PySem.W.Frag} (hn : l.most = some 63) (hdf : d.params.defaults = [])
    (hY : ∀ (w : World) (h : Heap), YP w h → (K w.params).In h)
    (F : ∀ (w : World) (mg : Str → Option Value) (fa : Addr) (h : Heap), (K w.params).In h → h.Ns mainGlobals mg → mg d.name = some (.ref fa) →
      ∃ fd : FuncData, (∀ (s : Shared) (u : Value), BindsTo s fd ⟨[u], []⟩ [("_law_script", u)]) ∧ ∀ base : Heap, (K w.params).In base → base.Ns mainGlobals mg → FnOk l.prog w (K w.params) mg base CX0 4 fa fd ["_law_script"] (sp_law (K w.params))) :
    PySem.W.WalkO q loose XP YP l.row.toRowW d [] (fun f vs => PySem.call f vs) :=
  L2.walk_of (n := 63) (k := 4) (x := "_law_script") (CX := fun _ => CX0) (sp := fun w => sp_law (K w.params)) hn (by decide) hdf ⟨rfl, by decide, by decide⟩ hY F (fun _ _ a ns hl _ hS => ⟨a, ns, rfl, hS, hl, fun _ => rfl⟩) fun _ _ _ _ _ z => z
end Toy
open PySem PySem.W PyProof.Rows
set_option maxRecDepth 100000 in
set_option maxHeartbeats 0 in
theorem PySem.Challenge.cw_cutofftills_k01_names_and_memories_holds : PySem.Challenge.rw_cutofftills_k01_names_and_memories.Holds := by
  w_on; o_law; k_head; (case hw => w_witness2)
  k_fill
  refine Toy.walk (l := PySem.Challenge.rw_cutofftills_k01_names_and_memories) rfl rfl (fun w h Y => PySem.W.kIn_of Y) ?F
  case F =>
    intro w mg fa h KX G hmg
    refine' Toy.all_mk KX G hmg ?a1 ?l1 ?c1 ?k1 ?a2 ?l2 ?c2 ?k2 ?a3 ?l3 ?c3 ?k3 ?a4 ?l4 ?c4 ?k4 ?a5 ?l5 ?c5 ?k5 ?a6 ?l6 ?c6 ?k6 ?a7 ?l7 ?c7 ?k7 ?a8 ?l8 ?c8 ?k8 ?a9 ?l9 ?c9 ?k9 ?z_all ?z_bool ?z_int ?z_isinstance ?z_len ?z_list ?z_max ?z_min ?z_range ?z_str ?z_tuple ?c_LONGEST_NAME ?c_TOP_REMEMBERED
    (case a1 => k_is)
    (case l1 => k_is)
    (case c1 => k_is)
    (case k1 => k_is)
    (case a2 => k_is)
    (case l2 => k_is)
    (case c2 => k_is)
    (case k2 => k_is)
    (case a3 => k_is)
    (case l3 => k_is)
    (case c3 => k_is)
    (case k3 => k_is)
    (case a4 => k_is)
    (case l4 => k_is)
    (case c4 => k_is)
    (case k4 => k_is)
    (case a5 => k_is)
    (case l5 => k_is)
    (case c5 => k_is)
    (case k5 => k_is)
    (case a6 => k_is)
    (case l6 => k_is)
    (case c6 => k_is)
    (case k6 => k_is)
    (case a7 => k_is)
    (case l7 => k_is)
    (case c7 => k_is)
    (case k7 => k_is)
    (case a8 => k_is)
    (case l8 => k_is)
    (case c8 => k_is)
    (case k8 => k_is)
    (case a9 => k_is)
    (case l9 => k_is)
    (case c9 => k_is)
    (case k9 => k_is)
    (case z_all => k_is)
    (case z_bool => k_is)
    (case z_int => k_is)
    (case z_isinstance => k_is)
    (case z_len => k_is)
    (case z_list => k_is)
    (case z_max => k_is)
    (case z_min => k_is)
    (case z_range => k_is)
    (case z_str => k_is)
    (case z_tuple => k_is)
    (case c_LONGEST_NAME => k_is)
    (case c_TOP_REMEMBERED => k_is)
