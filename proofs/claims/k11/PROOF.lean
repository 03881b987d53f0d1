import PyProof.Rows.All
import Wide.All
import OpenK.AllK
import Wide.FinOn
import HandS.ForMost
import HandS.Exc
import HandS.TryOnly
import HandS.WordsExc
import HandS.Wide
import HandS.Gcd
import HandS.Property
import HandS.Conv
import HandS.HeadHook1
import HandS.HeadHook4
import HandS.HeadWalk
import HandS.HeadEnd
import HandS.Head2
import HandS.IsInst
import HandS.NoneIn
import HandS.Style
import KE.KOpsOwn
import KE.LtData
import HandS.TupAny
import HandS.DictComp
import HandS.Star
import HandS.FStr
import HandS.Zip
import HandS.StrMore
import HandS.Head3
import PyProof.ReprLen
import HandS.ExcInit
import HandS.ExcField
import HandS.ExcIs
import HandS.Walk
import HandS.Lambda
import HandS.Text
import PyProof.Rows.StrAscii
import HandS.Deep
import HandS.Strs
import PyProof.ListStr
import HandS.TupSets
import KE.KeyNested
import KE.SortData
import KE.GoesMore
import HandS.DictTup
import KE.KDictSum
import PySem.Challenge.RW_rangehunt_k11_which_steps_are_possible
set_option Elab.async false
set_option linter.all false
set_option maxRecDepth 100000
set_option maxHeartbeats 0
/-! own layer, 1: one step at a time through a reading -/
namespace My
open PySem PySem.Spec PyProof.Rows L2
/-- a new tuple, a new list -/
def NewT (xs : List V) (H : Hp) (Q : VK) : Prop := xs.length ≤ sizeLine ∧ ∀ p, H p = none → Q (.ref p) (upd H p (.tup xs))
def NewL (xs : List V) (H : Hp) (Q : VK) : Prop := xs.length ≤ sizeLine ∧ ∀ p, H p = none → Q (.ref p) (upd H p (.lst xs))
section
variable {K : PySem.W.Frag} {σ : L2.St} {H H' : Hp} {ta tb tc te : TE} {t u : TS} {tt : TT} {D : Ends} {x y z v : V} {Q : VK} {QA : List V → Hp → Prop} {QB : Bool → Hp → Prop} {R : L2.St → Hp → Prop} {i : Nat}
theorem i_go {σ' : L2.St} (e : σ = σ') (h : t D σ' H) : t D σ H := e ▸ h
/-! ### statements -/
theorem i_seq (h : t { D with nx := u D } σ H) : tSeq t u D σ H := h
theorem i_next (h : D.nx σ H) : tNext D σ H := h
theorem i_asg {g : TG} (h : te σ H fun x H1 => g x σ H1 D.nx) : tAsg te g D σ H := h
theorem i_ret (h : te σ H D.rt) : tRet te D σ H := h
theorem i_retN (h : D.rt .non H) : tRetN D σ H := h
theorem i_drop (h : te σ H fun _ H1 => D.nx σ H1) : tDrop te D σ H := h
theorem i_if (h : tt σ H fun b H1 => if b = true then t D σ H1 else u D σ H1) : tIfS tt t u D σ H := h
theorem i_gname (h : R (σ.set i (some v)) H) : gName i v σ H R := h
theorem i_par {ta : TA} {j : Nat} (h : ta σ H fun vs H1 => ∃ v w, vs = [v, w] ∧ D.nx ((σ.set i (some v)).set j (some w)) H1) : tPar i j ta D σ H := h
/-! ### expressions -/
theorem i_var (e : σ[i]? = some (some v)) (h : Q v H) : tVar i σ H Q := ⟨v, e, h⟩
theorem i_c (h : Q v H) : tC v σ H Q := h
theorem i_op {r : R2} (h : ta σ H fun x H1 => tb σ H1 fun y H2 => r x y H2 Q) : tOp r ta tb σ H Q := h
theorem i_un {r : V → Hp → VK → Prop} (h : ta σ H fun x H1 => r x H1 Q) : tUn r ta σ H Q := h
theorem i_I0 {g : Int → Int → V} {a b : Int} (h : Q (g a b) H) : rI0 g (.int a) (.int b) H Q := ⟨a, b, rfl, rfl, h⟩
theorem i_I {C : Int → Int → Prop} {g : Int → Int → V} {a b : Int} (c : C a b) (h : Q (g a b) H) : rI C g (.int a) (.int b) H Q := ⟨a, b, rfl, rfl, c, h⟩
theorem i_U {g : Int → V} {a : Int} (h : Q (g a) H) : rU g (.int a) H Q := ⟨a, rfl, h⟩
theorem i_call {sp : Sp} {dvs : List V} {E : XK} {ta : TA} (h : ta σ H fun vs H1 => sp (vs ++ dvs) H1 Q E) : tCall sp dvs E ta σ H Q := h
theorem i_cb {r : List V → Hp → VK → Prop} {ta : TA} (h : ta σ H fun vs H1 => r vs H1 Q) : tCB r ta σ H Q := h
theorem i_nil (h : QA [] H) : tNil σ H QA := h
theorem i_cons {tr : TA} (h : te σ H fun x H1 => tr σ H1 fun xs H2 => QA (x :: xs) H2) : tCons te tr σ H QA := h
theorem i_tup {ta : TA} (h : ta σ H fun xs H1 => NewT xs H1 Q) : tTup ta σ H Q := h
theorem i_lst {ta : TA} (h : ta σ H fun xs H1 => NewL xs H1 Q) : tLst ta σ H Q := h
theorem i_ife (h : tt σ H fun c H1 => if c = true then ta σ H1 Q else tb σ H1 Q) : tIf tt ta tb σ H Q := h
theorem i_test (h : te σ H fun x H' => ∃ k, x = .bl k ∧ QB k H') : tTest te σ H QB := h
theorem i_tB (h : te σ H fun x H' => ∃ k, x = .bl k ∧ QB k H') : tB te σ H QB := h
theorem i_bl {k : Bool} (h : QB k H) : ∃ k', V.bl k = .bl k' ∧ QB k' H := ⟨k, rfl, h⟩
theorem i_not (h : tt σ H fun c H1 => QB (!c) H1) : tNot tt σ H QB := h
theorem i_and {tu : TT} (h : tt σ H fun c H1 => if c = true then tu σ H1 QB else QB false H1) : tAnd tt tu σ H QB := h
theorem i_or {tu : TT} (h : tt σ H fun c H1 => if c = true then QB true H1 else tu σ H1 QB) : tOr tt tu σ H QB := h
theorem i_andV (h : ta σ H fun x H1 => ∃ c, x = .bl c ∧ if c = true then tb σ H1 Q else Q (.bl false) H1) : tAndV ta tb σ H Q := h
theorem i_orV (h : ta σ H fun x H1 => ∃ c, x = .bl c ∧ if c = true then Q (.bl true) H1 else tb σ H1 Q) : tOrV ta tb σ H Q := h
theorem i_notV (h : ta σ H fun x H1 => ∃ c, x = .bl c ∧ Q (.bl (!c)) H1) : tNotV ta σ H Q := h
theorem i_blv {k : Bool} {P : Bool → Prop} (h : P k) : ∃ c, V.bl k = .bl c ∧ P c := ⟨k, rfl, h⟩
theorem i_fld {a C dx : Addr} {fs : List (Str × V)} {f : Str} (h : ta σ H fun x H1 => ∃ a C dx fs v, x = .ref a ∧ H1 a = some (.ins C dx fs) ∧ Cls K C ∧ NoAttr K C f ∧ fs.lookup f = some v ∧ Q v H1) : tFld K ta f σ H Q := h
theorem i_two {P : V → V → Prop} (h : P x y) : ∃ v w, [x, y] = [v, w] ∧ P v w := ⟨x, y, rfl, h⟩
/-- ints by the one-argument conversions -/
theorem i_ixL {p : Addr} {xs : List V} {n : Int} (hl : SqL K H p xs) (ha : atI xs n = some v) (h : Q v H) : rIxL K (.ref p) (.int n) H Q := ⟨p, xs, n, v, rfl, rfl, hl, ha, h⟩
theorem i_ixT {p : Addr} {xs : List V} {n : Int} (hl : SqT K H p xs) (ha : atI xs n = some v) (h : Q v H) : rIxT K (.ref p) (.int n) H Q := ⟨p, xs, n, v, rfl, rfl, hl, ha, h⟩
end
/-! ### built-in calls by name -/
section
variable {X : Cx}
def rInt1 : List V → Hp → VK → Prop := fun xs H Q => (∃ i, xs = [.int i] ∧ Q (.int i) H) ∨ ∃ k, xs = [.bl k] ∧ Q (.int (if k then 1 else 0)) H
theorem cr_int1 : CallR X (.type "int") rInt1 := call_int1
def rAbs : List V → Hp → VK → Prop := fun xs H Q => ∃ i, xs = [.int i] ∧ Q (.int (if i < 0 then -i else i)) H
theorem cr_abs : CallR X (.builtin "abs") rAbs := call_abs
def rMax2 : List V → Hp → VK → Prop := fun xs H Q => ∃ i j, xs = [.int i, .int j] ∧ Q (.int (if j > i then j else i)) H
theorem cr_max2 (hc : X.calm = true) : CallR X (.builtin "max") rMax2 := call_max2 hc
def rMin2 : List V → Hp → VK → Prop := fun xs H Q => ∃ i j, xs = [.int i, .int j] ∧ Q (.int (if j < i then j else i)) H
theorem cr_min2 (hc : X.calm = true) : CallR X (.builtin "min") rMin2 := call_min2 hc
def rLenA (K : PySem.W.Frag) : List V → Hp → VK → Prop := fun xs H Q => ∃ x n, xs = [x] ∧ LenV K x H n ∧ Q (.int n) H
theorem cr_len : CallR X (.builtin "len") (rLenA X.K) := call_len
def rListOf (K : PySem.W.Frag) : List V → Hp → VK → Prop := fun xs H Q => ∃ p ys, xs = [.ref p] ∧ (SqL K H p ys ∨ SqT K H p ys) ∧ ∀ l, H l = none → Q (.ref l) (upd H l (.lst ys))
theorem cr_listOf : CallR X (.type "list") (rListOf X.K) := call_list_of
/-- a power of two ints -/
def CPowW (i j : Int) : Prop := 0 ≤ j ∧ (Builtin.Int.intBits i : Int) * j ≤ 2 ^ 27
theorem op_powW : OpR X (binaryOp .Pow) (rI CPowW fun i j => .int (i ^ j.toNat)) := opI fun _ _ _ _ _ _ _ hc q => pow_int hc.1 hc.2 q
end
section
variable {K : PySem.W.Frag} {H : Hp} {Q : VK} {v : V} {xs : List V}
theorem i_int1 {a : Int} (h : Q (.int a) H) : rInt1 [.int a] H Q := .inl ⟨a, rfl, h⟩
theorem i_int1b {k : Bool} (h : Q (.int (if k then 1 else 0)) H) : rInt1 [.bl k] H Q := .inr ⟨k, rfl, h⟩
theorem i_abs {a : Int} (h : Q (.int (if a < 0 then -a else a)) H) : rAbs [.int a] H Q := ⟨a, rfl, h⟩
theorem i_max2 {a b : Int} (h : Q (.int (if b > a then b else a)) H) : rMax2 [.int a, .int b] H Q := ⟨a, b, rfl, h⟩
theorem i_min2 {a b : Int} (h : Q (.int (if b < a then b else a)) H) : rMin2 [.int a, .int b] H Q := ⟨a, b, rfl, h⟩
theorem i_lenL {p : Addr} (hl : SqL K H p xs) (h : Q (.int xs.length) H) : rLenA K [.ref p] H Q := ⟨.ref p, xs.length, rfl, .inl ⟨xs, hl, rfl⟩, h⟩
theorem i_lenT {p : Addr} (hl : SqT K H p xs) (h : Q (.int xs.length) H) : rLenA K [.ref p] H Q := ⟨.ref p, xs.length, rfl, .inr ⟨xs, hl, rfl⟩, h⟩
theorem i_ixsL {p : Addr} {n : Int} (hl : SqL K H p xs) (ha : atI xs n = some v) (h : Q v H) : rIx K (.ref p) (.int n) H Q := .inl ⟨p, xs, n, v, rfl, rfl, hl, ha, h⟩
theorem i_ixsT {p : Addr} {n : Int} (hl : SqT K H p xs) (ha : atI xs n = some v) (h : Q v H) : rIx K (.ref p) (.int n) H Q := .inr (.inl ⟨p, xs, n, v, rfl, rfl, hl, ha, h⟩)
/-! ### new objects: the heap behind is a new letter -/
theorem i_new {o : HO} (h : ∀ p H1, Same H H1 → H p = none → H1 p = some o → Q (.ref p) H1) : ∀ p, H p = none → Q (.ref p) (upd H p o) := fun p hp =>
  h p _ (fun b u e => by rw [upd_ne (ne_of_none e hp)]; exact e) hp upd_same
theorem i_szT (z : xs.length ≤ sizeLine) (h : ∀ p H1, Same H H1 → H p = none → H1 p = some (.tup xs) → Q (.ref p) H1) : NewT xs H Q := ⟨z, i_new h⟩
theorem i_szL (z : xs.length ≤ sizeLine) (h : ∀ p H1, Same H H1 → H p = none → H1 p = some (.lst xs) → Q (.ref p) H1) : NewL xs H Q := ⟨z, i_new h⟩
/-! ### frames -/
theorem _root_.L2.Same.seqT {K : PySem.W.Frag} {a : Addr} {H H' : Hp} {xs : List V} (e : L2.Same H H') (h : SqT K H a xs) : SqT K H' a xs := by
  rcases h with (h | ⟨o, h⟩) | h
  · exact .inl (.inl (e _ _ h))
  · exact .inl (.inr ⟨o, e _ _ h⟩)
  · exact .inr h

/-- all but what stands at p is as it was -/
def But (p : Addr) (H H' : Hp) : Prop := ∀ b o, b ≠ p → H b = some o → H' b = some o
theorem _root_.L2.Same.but {p : Addr} {H H' : Hp} (s : L2.Same H H') : But p H H' := fun b o _ e => s b o e
theorem But.refl {p : Addr} (H : Hp) : But p H H := fun _ _ _ h => h
theorem But.trans {p : Addr} {H H1 H2 : Hp} (a : But p H H1) (b : But p H1 H2) : But p H H2 := fun c o n h => b c o n (a c o n h)
theorem But.upd {p : Addr} {H : Hp} {o : HO} : But p H (upd H p o) := fun b u n h => by rw [upd_ne n]; exact h
theorem But.seq {K : PySem.W.Frag} {p a : Addr} {H H' : Hp} {xs : List V} (e : But p H H') (n : a ≠ p) (h : SqL K H a xs) : SqL K H' a xs := by
  rcases h with (h | ⟨o, h⟩) | h
  · exact .inl (.inl (e _ _ n h))
  · exact .inl (.inr ⟨o, e _ _ n h⟩)
  · exact .inr h
theorem But.seqT {K : PySem.W.Frag} {p a : Addr} {H H' : Hp} {xs : List V} (e : But p H H') (n : a ≠ p) (h : SqT K H a xs) : SqT K H' a xs := by
  rcases h with (h | ⟨o, h⟩) | h
  · exact .inl (.inl (e _ _ n h))
  · exact .inl (.inr ⟨o, e _ _ n h⟩)
  · exact .inr h
theorem But.free {p l : Addr} {H H' : Hp} (e : But p H H') (n : l ≠ p) (h : H' l = none) : H l = none := by
  cases q : H l with
  | none => rfl
  | some o =>
    rw [e l o n q] at h
    cases h
theorem atI_mem {xs : List V} {i : Int} (h0 : 0 ≤ i) (h1 : i < (xs.length : Int)) : ∃ v, atI xs i = some v ∧ v ∈ xs := by
  obtain ⟨j, rfl⟩ : ∃ j : Nat, i = (j : Int) := ⟨i.toNat, by omega⟩
  have hj : j < xs.length := by omega
  exact ⟨xs[j], atI_nat (List.getElem?_eq_getElem hj), List.getElem_mem hj⟩
theorem i_sub {to ti : TE} {t : TSet} {σ : L2.St} {R : L2.St → Hp → Prop} (h : to σ H fun o H1 => ti σ H1 fun i H2 => t o i v H2 fun H3 => R σ H3) : gSub to ti t v σ H R := h
theorem i_setL {p : Addr} {n : Int} {j : Nat} {R : Hp → Prop} (hl : H p = some (.lst xs)) (hj : ixN xs.length n = some j) (h : ∀ H1, But p H H1 → H1 p = some (.lst (xs.set j v)) → R H1) : rSetL (.ref p) (.int n) v H R :=
  ⟨p, xs, n, j, rfl, rfl, hl, hj, h _ But.upd upd_same⟩
theorem i_bm {T : String} {r : V → List V → Hp → VK → Prop} {to : TE} {t : TA} {σ : L2.St} (h : to σ H fun x H1 => tyV K T x H1 ∧ t σ H1 fun xs H2 => r x xs H2 Q) : tBM K T r to t σ H Q := h
theorem i_bm0 {T : String} {r : V → List V → Hp → VK → Prop} {to : TE} {σ : L2.St} (h : to σ H fun x H1 => tyV K T x H1 ∧ r x [] H1 Q) : tBM0 K T r to σ H Q := h
theorem i_tyL {p : Addr} {P : Prop} (hl : SqL K H p xs) (h : P) : tyV K "list" (.ref p) H ∧ P := ⟨.inl ⟨rfl, xs, hl⟩, h⟩
theorem i_app {l : Addr} {y : V} (hl : H l = some (.lst xs)) (hz : xs.length < sizeLine) (h : ∀ H1, But l H H1 → H1 l = some (.lst (xs ++ [y])) → Q .non H1) : rAppend (.ref l) [y] H Q := ⟨l, xs, y, rfl, rfl, hl, hz, h _ But.upd upd_same⟩
def NewR (a b : Int) (H : Hp) (Q : VK) : Prop := RgOk a b ∧ ∀ q, H q = none → Q (.ref q) (upd H q (.lst (rgV a b)))
theorem i_lstRg {t : L2.St → Hp → (Int → Int → Hp → Prop) → Prop} {σ : L2.St} (h : t σ H fun a b H1 => NewR a b H1 Q) : tLstRg t σ H Q := h
theorem i_rg1 {ta : TE} {σ : L2.St} {QQ : Int → Int → Hp → Prop} (h : ta σ H fun x H1 => ∃ n, x = .int n ∧ QQ 0 n H1) : tRg1 ta σ H QQ := h
theorem i_in {n : Int} {P : Int → Prop} (h : P n) : ∃ m, V.int n = .int m ∧ P m := ⟨n, rfl, h⟩
theorem i_newR {a b : Int} (z : RgOk a b) (h : ∀ p H1, Same H H1 → H p = none → H1 p = some (.lst (rgV a b)) → Q (.ref p) H1) : NewR a b H Q := ⟨z, i_new h⟩
/-- both ways of an expression's if, joined by what is told of the value -/
theorem i_join {c : Bool} {ta tb : TE} {σ : L2.St} (Pr : V → Prop) (h1 : c = true → ∀ Q : VK, (∀ v, Pr v → Q v H) → ta σ H Q) (h2 : c = false → ∀ Q : VK, (∀ v, Pr v → Q v H) → tb σ H Q) (h : ∀ v, Pr v → Q v H) : if c = true then ta σ H Q else tb σ H Q := by
  cases c with
  | true => exact h1 rfl Q h
  | false => exact h2 rfl Q h
theorem ite_nt {A B : Prop} (h : B) : if (!true) = true then A else B := h
theorem ite_nf {A B : Prop} (h : A) : if (!false) = true then A else B := h
theorem i_gcd {a b : Int} (h : Q (.int ((Nat.gcd a.natAbs b.natAbs : Nat) : Int)) H) : rGcd [.int a, .int b] H Q := ⟨a, b, rfl, h⟩
theorem dec_intV {a b : Int} : decide (V.int a = V.int b) = decide (a = b) := by
  rw [decide_eq_decide]
  exact ⟨fun z => V.int.inj z, fun z => z ▸ rfl⟩
theorem i_eqI {a b : Int} (h : Q (.bl (decide (a = b))) H) : rEq (.int a) (.int b) H Q := ⟨rfl, by rw [dec_intV]; exact h⟩
theorem i_neI {a b : Int} (h : Q (.bl (!decide (a = b))) H) : rNe (.int a) (.int b) H Q := ⟨rfl, by rw [dec_intV]; exact h⟩
theorem i_eqT {a b : Int} (e : a = b) (h : Q (.bl true) H) : rEq (.int a) (.int b) H Q := i_eqI (by rw [decide_eq_true e]; exact h)
theorem i_eqF {a b : Int} (e : ¬ a = b) (h : Q (.bl false) H) : rEq (.int a) (.int b) H Q := i_eqI (by rw [decide_eq_false e]; exact h)
theorem i_neF {a b : Int} (e : a = b) (h : Q (.bl false) H) : rNe (.int a) (.int b) H Q := i_neI (by rw [decide_eq_true e]; exact h)
theorem i_neT {a b : Int} (e : ¬ a = b) (h : Q (.bl true) H) : rNe (.int a) (.int b) H Q := i_neI (by rw [decide_eq_false e]; exact h)
/-- a comparison of ints whose answer is known -/
theorem i_leT {a b : Int} {p : Int → Int → Bool} (e : p a b = true) (h : Q (.bl true) H) : rI0 (fun i j => V.bl (p i j)) (.int a) (.int b) H Q := ⟨a, b, rfl, rfl, by show Q (V.bl (p a b)) H; rw [e]; exact h⟩
theorem i_leF {a b : Int} {p : Int → Int → Bool} (e : p a b = false) (h : Q (.bl false) H) : rI0 (fun i j => V.bl (p i j)) (.int a) (.int b) H Q := ⟨a, b, rfl, rfl, by show Q (V.bl (p a b)) H; rw [e]; exact h⟩
theorem ite_d {c A B : Prop} [Decidable c] (hc : c) (h : A) : if decide c = true then A else B := by rw [decide_eq_true hc]; exact iteT h
theorem ite_dn {c A B : Prop} [Decidable c] (hc : ¬ c) (h : B) : if decide c = true then A else B := by rw [decide_eq_false hc]; exact iteF h
theorem ite_nd {c A B : Prop} [Decidable c] (hc : c) (h : B) : if (!decide c) = true then A else B := by rw [decide_eq_true hc]; exact iteF h
theorem ite_ndn {c A B : Prop} [Decidable c] (hc : ¬ c) (h : A) : if (!decide c) = true then A else B := by rw [decide_eq_false hc]; exact iteT h
theorem ite_b {b : Bool} {A B : Prop} (h1 : b = true → A) (h2 : b = false → B) : if b = true then A else B := by
  cases b with
  | true => exact h1 rfl
  | false => exact h2 rfl
theorem ite_nb {b : Bool} {A B : Prop} (h1 : b = false → A) (h2 : b = true → B) : if (!b) = true then A else B := by
  cases b with
  | true => exact h2 rfl
  | false => exact h1 rfl
end
end My

/-! own layer, 2: where defs, methods, properties, operators stand; their calls -/
namespace My
open PySem PySem.Spec PyProof.Rows L2
def fdOf (K : PySem.W.Frag) (a : Addr) : FuncData := match K.lookup a with
  | some ⟨_, _, .func fd, _⟩ => fd
  | _ => ⟨"", "", ⟨[], [], none, [], [], none, []⟩, .stmts [], ⟨.function, [], false, false, []⟩, 0, [], .none, .none, .none, .none, none, .none, .none, 0⟩
/-- the getter of the property at p -/
def gtOf (K : PySem.W.Frag) (p : Addr) : Addr := match PySem.W.recIn K p "property" with
  | some (.ref g :: _) => g
  | _ => 0
/-- a module's def -/
structure GFn (K : PySem.W.Frag) (mg : Str → Option Value) (x : Str) (st : Stmt) (ps : List Str) : Prop where
  m : mg x = some (.ref (He.ga K x))
  f : Fun K x x st (He.ga K x) (fdOf K (He.ga K x))
  b : L2.Binds K (fdOf K (He.ga K x)) ps []
/-- a method of the class at C -/
structure GMe (K : PySem.W.Frag) (C : Addr) (m qual : Str) (st : Stmt) (ps : List Str) : Prop where
  h : Meth K C m (He.ma K C m)
  f : Fun K m qual st (He.ma K C m) (fdOf K (He.ma K C m))
  b : L2.Binds K (fdOf K (He.ma K C m)) ps []
/-- a property -/
structure GPr (K : PySem.W.Frag) (C : Addr) (m qual : Str) (st : Stmt) : Prop where
  p : PropOf K C m (He.ma K C m) (gtOf K (He.ma K C m))
  f : Fun K m qual st (gtOf K (He.ma K C m)) (fdOf K (gtOf K (He.ma K C m)))
  b : L2.Binds K (fdOf K (gtOf K (He.ma K C m))) ["self"] []
/-- a class that is made -/
structure GMk (K : PySem.W.Frag) (mg : Str → Option Value) (x : Str) : Prop where
  m : mg x = some (.ref (He.ga K x))
  k : Mk K (He.ga K x) (He.ma K (He.ga K x) "__init__")
abbrev FnAt (P : Program) (w : World) (K : PySem.W.Frag) (mg : Str → Option Value) (base : Heap) (CX : CXT) (k : Nat) (a : Addr) (ps : List Str) (sp : Sp) : Prop := FnOk P w K mg base CX k a (fdOf K a) ps sp
section
variable {X : Cx} {CX : CXT} {k : Nat} {x m qual : Str} {st : Stmt} {ps : List Str} {sp : Sp} {p pos apos : Pos} {e o : Expr} {es : List Expr} {t : TA} {ta : TE} {C : Addr}
theorem pe_fn (g : GFn X.K X.mg x st ps) (F : FnAt X.prog X.w X.K X.mg X.base CX k (He.ga X.K x) ps sp) (hr : Room k X.A) (ha : PA X (e :: es) t) (hx : Passes CX X E0 := by first | exact pass0 | exact passL) (hg : Gl X x := by rfl)
    (hdb : (x == ("__debug__" : Str)) = false := by decide) (he : starEach (e :: es) X.env = (false, eval e X.env) :: starEach es X.env := by rfl) (hpl : (backTo pos (starEach es X.env)).any (·.1) = false := by rfl) :
    PE X (.Call (.Name x p) (e :: es) [] pos) (tCall sp [] E0 t) := pe_call F hr hg g.m g.f.kp g.b .nil hx ha hdb he hpl
theorem pe_fnX {E : XK} (g : GFn X.K X.mg x st ps) (F : FnAt X.prog X.w X.K X.mg X.base CX k (He.ga X.K x) ps sp) (hr : Room k X.A) (hx : Passes CX X E) (ha : PA X (e :: es) t) (hg : Gl X x := by rfl)
    (hdb : (x == ("__debug__" : Str)) = false := by decide) (he : starEach (e :: es) X.env = (false, eval e X.env) :: starEach es X.env := by rfl) (hpl : (backTo pos (starEach es X.env)).any (·.1) = false := by rfl) :
    PE X (.Call (.Name x p) (e :: es) [] pos) (tCall sp [] E t) := pe_call F hr hg g.m g.f.kp g.b .nil hx ha hdb he hpl
theorem pe_me {pl : Sem Bool} (c : Cls X.K C) (g : GMe X.K C m qual st ps) (F : FnAt X.prog X.w X.K X.mg X.base CX k (He.ma X.K C m) ps sp) (hr : Room k X.A) (ho : PE X o ta) (ha : PA X (e :: es) t) (hx : Passes CX X E0 := by first | exact pass0 | exact passL)
    (hst : starEach (e :: es) X.env = (false, eval e X.env) :: starEach es X.env := by rfl) (hpl : (backTo pos (starEach es X.env)).any (·.1) = false := by rfl)
    (ht : eval (.Call (.Attribute o m apos) (e :: es) [] pos) X.env = (do
      let ov ← eval o X.env
      standAt apos.atName
      let (f, first) ← holding [ov] (getMethod ov m pl)
      callWith pos f first (backTo pos (starEach (e :: es) X.env)) (backToKw pos (keywordEach [] X.env))) := by rfl) :
    PE X (.Call (.Attribute o m apos) (e :: es) [] pos) (tMeth C m sp [] E0 ta t) := pe_meth ho c g.h F hr g.b .nil hx ha hst hpl ht
theorem pe_me0 {pl : Sem Bool} (c : Cls X.K C) (g : GMe X.K C m qual st ps) (F : FnAt X.prog X.w X.K X.mg X.base CX k (He.ma X.K C m) ps sp) (hr : Room k X.A) (ho : PE X o ta) (hx : Passes CX X E0 := by first | exact pass0 | exact passL)
    (ht : eval (.Call (.Attribute o m apos) [] [] pos) X.env = (do
      let ov ← eval o X.env
      standAt apos.atName
      let (f, first) ← holding [ov] (getMethod ov m pl)
      callWith pos f first (backTo pos (starEach [] X.env)) (backToKw pos (keywordEach [] X.env))) := by rfl) :
    PE X (.Call (.Attribute o m apos) [] [] pos) (tMeth C m sp [] E0 ta tNil) := pe_meth0 ho c g.h F hr g.b .nil hx ht
theorem pe_pr (c : Cls X.K C) (g : GPr X.K C m qual st) (F : FnAt X.prog X.w X.K X.mg X.base CX k (gtOf X.K (He.ma X.K C m)) ["self"] sp) (hr : Room (k + 1) X.A) (ho : PE X o ta) (hx : Passes CX X.nox E0 := by first | exact pass0 | exact passL)
    (hab : attributeBase o m X.env (eval o X.env) = eval o X.env := by rfl) : PE X (.Attribute o m pos) (tProp C sp [] E0 ta) := pe_prop ho c g.p F hr g.b .nil hx hab
theorem pe_mk (g : GMk X.K X.mg x) {fm : GMe X.K (He.ga X.K x) "__init__" qual st ps} (F : FnAt X.prog X.w X.K X.mg X.base CX k (He.ma X.K (He.ga X.K x) "__init__") ps sp) (hr : Room (k + 1) X.A) (ha : PA X (e :: es) t) (hx : Passes CX X E0 := by first | exact pass0 | exact passL) (hg : Gl X x := by rfl)
    (hdb : (x == ("__debug__" : Str)) = false := by decide) (he : starEach (e :: es) X.env = (false, eval e X.env) :: starEach es X.env := by rfl) (hpl : (backTo pos (starEach es X.env)).any (·.1) = false := by rfl) :
    PE X (.Call (.Name x p) (e :: es) [] pos) (tMake (He.ga X.K x) sp [] E0 t) := pe_make g.k F hr hg g.m fm.b .nil hx ha hdb he hpl
theorem pe_mkK {K : PySem.W.Frag} (hK : X.K = K) (g : GMk K X.mg x) {fm : GMe K (He.ga K x) "__init__" qual st ps} (F : FnAt X.prog X.w K X.mg X.base CX k (He.ma K (He.ga K x) "__init__") ps sp) (hr : Room (k + 1) X.A) (ha : PA X (e :: es) t) (hx : Passes CX X E0 := by first | exact pass0 | exact passL) (hg : Gl X x := by rfl)
    (hdb : (x == ("__debug__" : Str)) = false := by decide) (he : starEach (e :: es) X.env = (false, eval e X.env) :: starEach es X.env := by rfl) (hpl : (backTo pos (starEach es X.env)).any (·.1) = false := by rfl) :
    PE X (.Call (.Name x p) (e :: es) [] pos) (tMake (He.ga K x) sp [] E0 t) := by
  subst hK
  exact pe_mk g (fm := fm) F hr ha hx hg hdb he hpl
/-- what an own operator asks of the class -/
structure GOp (K : PySem.W.Frag) (C : Addr) (m qual : Str) (st : Stmt) : Prop where
  at_ : PySem.W.findIn K (.ref C) m = some (some (.ref (He.ma K C m)))
  fn : PySem.W.isFn K (.ref (He.ma K C m)) = true
  f : Fun K m qual st (He.ma K C m) (fdOf K (He.ma K C m))
  b : L2.Binds K (fdOf K (He.ma K C m)) ["self", "other"] []
/-- x op y of two instances of one class: the method's promise -/
def rOwn (C : Addr) (sp : Sp) : R2 := fun x y H Q => ∃ a b dx dy fs gs, x = .ref a ∧ y = .ref b ∧ H a = some (.ins C dx fs) ∧ H b = some (.ins C dy gs) ∧ sp [x, y] H Q E0
theorem back_of {pins : List (Addr × Obj)} {σ : L2.St} {Q : VK} {u : Value} {s : Shared} (h : EP X pins σ Q u s) : PySem.W.CmpBack (EP X pins σ Q) u s := by
  obtain ⟨v, H', I, r, q⟩ := h
  cases u with
  | notImplemented =>
    exfalso
    cases v with
    | non => cases r
    | bl _ => cases r
    | int _ => obtain ⟨t, z⟩ := r; cases z
    | str _ => obtain ⟨t, z⟩ := r; cases z
    | byt _ => obtain ⟨t, z⟩ := r; cases z
    | flt _ => obtain ⟨t, z⟩ := r; cases z
    | ref _ => cases r
    | ty _ => cases r
  | _ => exact ⟨v, H', I, r, q⟩
theorem op_own {op : Operator} (g : GOp X.K C m qual st) (hm : PySem.dunder op.info.2 = m) (F : FnAt X.prog X.w X.K X.mg X.base CX k (He.ma X.K C m) ["self", "other"] sp) (hr : Room k X.A) (hc : PySem.W.selfFirst X.K C = true)
    (hx : Passes CX X E0 := by first | exact pass0 | exact passL) : OpR X (binaryOp op) (rOwn C sp) := by
  intro pins s σ H x y v u Q I rx ry h
  obtain ⟨a, b, dx, dy, fs, gs, rfl, rfl, ha, hb, hsp⟩ := h
  cases rx
  cases ry
  obtain ⟨mA, J, _⟩ := ins_get I.hok ha
  obtain ⟨mB, J', _⟩ := ins_get I.hok hb
  obtain ⟨od, J, _⟩ := J.look
  obtain ⟨od', J', _⟩ := J'.look
  obtain ⟨mm, hF⟩ := I.fr
  subst hm
  refine PySem.W.binop_K hF I.ok.mod.kin J J'.type hc g.at_ g.fn ?_
  exact thn (run_fn (vs := [.ref a, .ref b]) F hr g.b .nil hx I (.cons rfl (.cons rfl .nil)) hsp) fun r s' q => back_of q
theorem cm_own {op : CmpOp} (g : GOp X.K C m qual st) (hm : (PySem.cmpInfo op).2.1 = m) (hop : ∀ v u, compareOp op v u = richCompare op v u) (F : FnAt X.prog X.w X.K X.mg X.base CX k (He.ma X.K C m) ["self", "other"] sp) (hr : Room k X.A)
    (hx : Passes CX X E0 := by first | exact pass0 | exact passL) : OpR X (compareOp op) (rOwn C sp) := by
  intro pins s σ H x y v u Q I rx ry h
  obtain ⟨a, b, dx, dy, fs, gs, rfl, rfl, ha, hb, hsp⟩ := h
  cases rx
  cases ry
  obtain ⟨mA, J, _⟩ := ins_get I.hok ha
  obtain ⟨mB, J', _⟩ := ins_get I.hok hb
  obtain ⟨od, J, _⟩ := J.look
  obtain ⟨od', J', _⟩ := J'.look
  obtain ⟨mm, hF⟩ := I.fr
  subst hm
  rw [hop]
  refine PySem.W.cmp_K (tb := .ref C) hr.units0 hF I.ok.mod.kin J J'.type (by simp [PySem.W.notFirst]) g.at_ g.fn ?_
  exact thn (run_fn (vs := [.ref a, .ref b]) F hr g.b .nil hx I (.cons rfl (.cons rfl .nil)) hsp) fun r s' q => back_of q
end
end My

/-! own layer: sizes -/
namespace My
open PySem PySem.Spec PyProof.Rows L2
theorem log_lt {n k : Nat} (hk : 0 < k) (h : n < 2 ^ k) : n.log2 < k := PySem.Flt.log2_lt_of hk h
theorem mulS {i j : Int} (h1 : -1000000000000000000000000000000 < i) (h2 : i < 1000000000000000000000000000000) (h3 : -1000000000000000000000000000000 < j) (h4 : j < 1000000000000000000000000000000) : CMulW i j :=
  wide_mul (a := 100) (b := 100) (Nat.lt_of_lt_of_le (m := 1000000000000000000000000000000) (by omega) (by decide +kernel)) (Nat.lt_of_lt_of_le (m := 1000000000000000000000000000000) (by omega) (by decide +kernel)) (by decide) (by decide) (by decide)
theorem divS {i j : Int} (h3 : 0 < j) (h4 : j < 1000000000000000000000000000000) : CDivW i j :=
  wide_div (b := 100) h3 (Nat.lt_of_lt_of_le (m := 1000000000000000000000000000000) (by omega) (by decide +kernel)) (by decide) (by decide)
theorem bits_le (x : Int) : Builtin.Int.intBits x ≤ x.natAbs.log2 + 1 := by
  unfold Builtin.Int.intBits
  split <;> omega
theorem pow3S {i : Int} (h1 : -1000000000000000000000000000000 < i) (h2 : i < 1000000000000000000000000000000) : CPowW i 3 := by
  have h : i.natAbs.log2 < 100 := log_lt (by decide) (Nat.lt_of_lt_of_le (m := 1000000000000000000000000000000) (by omega) (by decide +kernel))
  have b := bits_le i
  refine ⟨by decide, ?_⟩
  have e : (2 : Int) ^ 27 = 134217728 := by decide
  rw [e]
  omega
theorem powL {i j : Int} (h : decide (0 ≤ j ∧ (Builtin.Int.intBits i : Int) * j ≤ 134217728) = true) : CPowW i j := by
  have h := of_decide_eq_true h
  exact ⟨h.1, h.2⟩
/-- k * c * c + d of a draw's number -/
theorem pow3Q {b k c d : Int} (hb : 0 ≤ b) (hb2 : b < 2305843009213693952) (hk : 0 ≤ k) (hk2 : k ≤ 1000000) (hc : 0 ≤ c) (hc2 : c ≤ 1000001) (hd : 0 ≤ d) (hd2 : d ≤ 1000000) : CPowW (b + k * c * c + d) 3 := by
  have h1 : 0 ≤ k * c := Int.mul_nonneg hk hc
  have h2 : k * c ≤ 1000000 * 1000001 := Int.mul_le_mul hk2 hc2 hc (by decide)
  have h3 : 0 ≤ k * c * c := Int.mul_nonneg h1 hc
  have h4 : k * c * c ≤ 1000000 * 1000001 * 1000001 := Int.mul_le_mul h2 hc2 hc (by decide)
  exact pow3S (by omega) (by omega)
section
variable {H : Hp} {Q : VK}
/-- a remainder, told by its bounds alone -/
theorem i_modQ {a j : Int} (hj : 0 < j) (h : ∀ m : Int, 0 ≤ m → m < j → Q (.int m) H) : rI (fun _ j => 0 < j) (fun i j => V.int (i % j)) (.int a) (.int j) H Q :=
  ⟨a, j, rfl, rfl, hj, h _ (Int.emod_nonneg _ (by omega)) (Int.emod_lt_of_pos _ hj)⟩
end
theorem pot_lt {m : Int} (h0 : 0 ≤ m) (h : m < (10 ^ Int.toNat 60) ^ Int.toNat 5) : m.natAbs < 2 ^ 1000 := by
  have e : ((10 : Int) ^ Int.toNat 60) ^ Int.toNat 5 < ((2 ^ 1000 : Nat) : Int) := by decide +kernel
  have h2 : m < ((2 ^ 1000 : Nat) : Int) := Int.lt_trans h e
  generalize 2 ^ 1000 = z at h2 ⊢
  omega
theorem mul01 {m : Int} {k : Bool} (h : m.natAbs < 2 ^ 1000) : CMulW m (if k = true then 1 else 0) := wide_mul (a := 1000) (b := 1) h (by cases k <;> decide) (by decide) (by decide) (by decide)
theorem mul01_nn {m : Int} {k : Bool} (h : 0 ≤ m) : 0 ≤ m * (if k = true then 1 else 0) := by cases k <;> simp [h]
/-! ### ratios are rationals -/
theorem rat_nd (a : Int) (b : Nat) (hb : 0 < b) : ((a : Rat) / (b : Rat)).num = a / ((Nat.gcd a.natAbs b : Nat) : Int) ∧ ((a : Rat) / (b : Rat)).den = b / Nat.gcd a.natAbs b := by
  have h : (a : Rat) / (b : Rat) = mkRat a b := (Rat.mkRat_eq_div a b).symm
  rw [h]
  have hz : b ≠ 0 := by omega
  unfold mkRat
  rw [dif_neg hz, Rat.normalize_eq hz]
  exact ⟨rfl, rfl⟩
theorem rat_ndI (a b : Int) (hb : 0 < b) : ((a : Rat) / (b : Rat)).num = a / ((Nat.gcd a.natAbs b.natAbs : Nat) : Int) ∧ (((a : Rat) / (b : Rat)).den : Int) = b / ((Nat.gcd a.natAbs b.natAbs : Nat) : Int) := by
  obtain ⟨n, rfl⟩ : ∃ n : Nat, b = (n : Int) := ⟨b.toNat, by omega⟩
  have h := rat_nd a n (by omega)
  have e : ((n : Int) : Rat) = (n : Rat) := by norm_cast
  rw [e, h.1, h.2]
  simp
/-- a ratio's pair -/
abbrev rat (q : Rat) : List V := [.int q.num, .int (q.den : Int)]
theorem rat_div {a b : Int} (hb : 0 < b) : ([V.int (a / ((Nat.gcd a.natAbs b.natAbs : Nat) : Int)), V.int (b / ((Nat.gcd a.natAbs b.natAbs : Nat) : Int))] : List V) = rat ((a : Rat) / (b : Rat)) := by
  obtain ⟨h1, h2⟩ := rat_ndI a b hb
  unfold rat
  rw [h1, h2]
theorem gcd_div {a b : Int} (hb : 0 < b) (sb : b.natAbs < 2 ^ 4000) : CDivW a ((Nat.gcd a.natAbs b.natAbs : Nat) : Int) ∧ CDivW b ((Nat.gcd a.natAbs b.natAbs : Nat) : Int) := by
  have h1 : 0 < Nat.gcd a.natAbs b.natAbs := Nat.gcd_pos_of_pos_right _ (by omega)
  have h2 : Nat.gcd a.natAbs b.natAbs ≤ b.natAbs := Nat.le_of_dvd (by omega) (Nat.gcd_dvd_right _ _)
  have h3 : ((Nat.gcd a.natAbs b.natAbs : Nat) : Int).natAbs < 2 ^ 4000 := by rw [Int.natAbs_natCast]; exact Nat.lt_of_le_of_lt h2 sb
  exact ⟨wide_div (b := 4000) (by omega) h3 (by decide) (by decide), wide_div (b := 4000) (by omega) h3 (by decide) (by decide)⟩
end My

/-! own layer, 3: what the laws' own helpers promise -/
namespace My
open PySem PySem.Spec PyProof.Rows L2
/-- a pot at p, of at most n draws -/
def Pot (H : Hp) (p : Addr) (n : Int) : Prop := ∃ a b c : Int, H p = some (.lst [.int a, .int b, .int c]) ∧ 0 ≤ a ∧ 0 ≤ b ∧ b < 2305843009213693952 ∧ 0 ≤ c ∧ c ≤ n
def spTake : Sp := fun vs H Q _ => ∃ (p : Addr) (u n : Int), vs = [.ref p, .int u] ∧ Pot H p n ∧ n < 1000000 ∧ 0 < u ∧ u < 1000000000 ∧ ∀ (r : Int) (H' : Hp), 0 ≤ r → r < u → Pot H' p (n + 1) → But p H H' → Q (.int r) H'
def spOf (K : PySem.W.Frag) : Sp := fun vs H Q _ => ∃ (p q : Addr) (xs : List V) (n : Int), vs = [.ref p, .ref q] ∧ Pot H p n ∧ n < 1000000 ∧ q ≠ p ∧ SqL K H q xs ∧ 0 < xs.length ∧ xs.length < 1000000 ∧
  ∀ (v : V) (H' : Hp), v ∈ xs → Pot H' p (n + 1) → But p H H' → Q v H'
def spCells (K : PySem.W.Frag) : Sp := fun vs H Q _ => ∃ (a : Addr) (ns : List Int) (m : Int), vs = [.ref a, .int m] ∧ SqL K H a (ns.map V.int) ∧ ns.length ≤ 63 ∧ m ≤ 100 ∧
  ∀ (q : Addr) (H' : Hp) (j : Nat), j ≤ 100 → Same H H' → H q = none → H' q = some (.lst (rgV 0 j)) → Q (.ref q) H'
def spPot (K : PySem.W.Frag) : Sp := fun vs H Q _ => ∃ (a : Addr) (ns : List Int) (i : Int), vs = [.ref a, .int i] ∧ SqL K H a (ns.map V.int) ∧ 0 ≤ i ∧ i ≤ 100 ∧
  ∀ (p : Addr) (H' : Hp), Same H H' → H p = none → Pot H' p 0 → Q (.ref p) H'
def spCommon : Sp := fun vs H Q _ => ∃ a b : Int, vs = [.int a, .int b] ∧ Q (.int ((Nat.gcd a.natAbs b.natAbs : Nat) : Int)) H
def spPair : Sp := fun vs H Q _ => ∃ a b : Int, vs = [.int a, .int b] ∧ 0 < b ∧ a.natAbs < 2 ^ 4000 ∧ b.natAbs < 2 ^ 4000 ∧
  ∀ (p : Addr) (H' : Hp), Same H H' → H p = none → H' p = some (.tup (rat ((a : Rat) / b))) → Q (.ref p) H'
end My

/-! own layer: ratios as rationals, core Lean alone -/
namespace My
/-- both parts below 2 ^ k -/
def Sz (k : Nat) (q : Rat) : Prop := q.num.natAbs < 2 ^ k ∧ q.den < 2 ^ k
theorem Sz.mono {j k : Nat} {q : Rat} (h : Sz j q) (hk : j ≤ k) : Sz k q := ⟨Nat.lt_of_lt_of_le h.1 (Nat.pow_le_pow_right (by decide) hk), Nat.lt_of_lt_of_le h.2 (Nat.pow_le_pow_right (by decide) hk)⟩
theorem sz_div {a : Int} {b k : Nat} (hb : 0 < b) (h1 : a.natAbs < 2 ^ k) (h2 : b < 2 ^ k) : Sz k ((a : Rat) / (b : Rat)) := by
  obtain ⟨e1, e2⟩ := rat_nd a b hb
  refine ⟨?_, ?_⟩
  · rw [e1, Int.natAbs_ediv_of_dvd (Int.ofNat_dvd_left.mpr (Nat.gcd_dvd_left _ _)), Int.natAbs_natCast]
    exact Nat.lt_of_le_of_lt (Nat.div_le_self _ _) h1
  · rw [e2]
    exact Nat.lt_of_le_of_lt (Nat.div_le_self _ _) h2
theorem sz_divI {a b : Int} {k : Nat} (hb : 0 < b) (h1 : a.natAbs < 2 ^ k) (h2 : b.natAbs < 2 ^ k) : Sz k ((a : Rat) / (b : Rat)) := by
  obtain ⟨n, rfl⟩ : ∃ n : Nat, b = (n : Int) := ⟨b.toNat, by omega⟩
  have e : ((n : Int) : Rat) = (n : Rat) := by norm_cast
  rw [e]
  exact sz_div (by omega) h1 (by simpa using h2)
theorem den_ne (p : Rat) : ((p.den : Nat) : Rat) ≠ 0 := fun z => p.den_nz (by exact_mod_cast z)
theorem den_pos (p : Rat) : 0 < p.den := Nat.pos_of_ne_zero p.den_nz
theorem num_den (p : Rat) : (p.num : Rat) / ((p.den : Nat) : Rat) = p := by
  have h := Rat.num_divInt_den p
  rw [Rat.divInt_eq_div] at h
  have e : (((p.den : Nat) : Int) : Rat) = ((p.den : Nat) : Rat) := by norm_cast
  rw [e] at h
  exact h
theorem add_div (p q : Rat) : ((p.num * (q.den : Int) + q.num * (p.den : Int) : Int) : Rat) / (((p.den : Int) * (q.den : Int) : Int) : Rat) = p + q := by
  have h1 := num_den p
  have h2 := num_den q
  have d1 := den_ne p
  have d2 := den_ne q
  have e3 : ((p.num * (q.den : Int) + q.num * (p.den : Int) : Int) : Rat) = (p.num : Rat) * (q.den : Rat) + (q.num : Rat) * (p.den : Rat) := by push_cast; rfl
  have e4 : (((p.den : Int) * (q.den : Int) : Int) : Rat) = (p.den : Rat) * (q.den : Rat) := by push_cast; rfl
  rw [e3, e4]
  grind
theorem mul_div (p q : Rat) : ((p.num * q.num : Int) : Rat) / (((p.den : Int) * (q.den : Int) : Int) : Rat) = p * q := by
  have h1 := num_den p
  have h2 := num_den q
  have d1 := den_ne p
  have d2 := den_ne q
  have e3 : ((p.num * q.num : Int) : Rat) = (p.num : Rat) * (q.num : Rat) := by push_cast; rfl
  have e4 : (((p.den : Int) * (q.den : Int) : Int) : Rat) = (p.den : Rat) * (q.den : Rat) := by push_cast; rfl
  rw [e3, e4]
  grind
theorem pos_num {p : Rat} (h : 0 < p) : 0 < p.num := by
  have := (Rat.lt_iff 0 p).mp h
  simpa using this
theorem nn_num {p : Rat} (h : 0 ≤ p) : 0 ≤ p.num := Rat.num_nonneg.mpr h
theorem div_div {p q : Rat} (hq : 0 < q) : ((p.num * (q.den : Int) : Int) : Rat) / (((p.den : Int) * q.num : Int) : Rat) = p / q := by
  have h1 := num_den p
  have h2 := num_den q
  have d1 := den_ne p
  have d2 := den_ne q
  have e3 : ((p.num * (q.den : Int) : Int) : Rat) = (p.num : Rat) * (q.den : Rat) := by push_cast; rfl
  have e4 : (((p.den : Int) * q.num : Int) : Rat) = (p.den : Rat) * (q.num : Rat) := by push_cast; rfl
  have d3 : (q.num : Rat) ≠ 0 := fun z => by
    have := pos_num hq
    have z' : q.num = 0 := by exact_mod_cast z
    omega
  rw [e3, e4]
  grind
theorem le_nd (p q : Rat) : (q ≤ p) ↔ p.num * (q.den : Int) ≥ q.num * (p.den : Int) := Rat.le_iff q p
theorem abs_mul_lt {a b : Int} {j k : Nat} (h1 : a.natAbs < 2 ^ j) (h2 : b.natAbs < 2 ^ k) : (a * b).natAbs < 2 ^ (j + k) := by
  rw [Int.natAbs_mul, Nat.pow_add]
  exact Nat.mul_lt_mul'' h1 h2
theorem abs_add_lt {a b : Int} {j : Nat} (h1 : a.natAbs < 2 ^ j) (h2 : b.natAbs < 2 ^ j) : (a + b).natAbs < 2 ^ (j + 1) := by
  rw [Nat.pow_succ]
  have := Int.natAbs_add_le a b
  omega
section
variable {j k : Nat} {p q : Rat}
theorem Sz.den (h : Sz j p) : ((p.den : Nat) : Int).natAbs < 2 ^ j := by rw [Int.natAbs_natCast]; exact h.2
theorem dd_pos (p q : Rat) : (0 : Int) < (p.den : Int) * (q.den : Int) := Int.mul_pos (by have := den_pos p; omega) (by have := den_pos q; omega)
theorem dn_pos (p : Rat) (h : 0 < q) : (0 : Int) < (p.den : Int) * q.num := Int.mul_pos (by have := den_pos p; omega) (pos_num h)
theorem Sz.add (h : Sz j p) (h' : Sz j q) : Sz (j + j + 1) (p + q) := by
  rw [← add_div]
  exact sz_divI (dd_pos p q) (abs_add_lt (abs_mul_lt h.1 h'.den) (abs_mul_lt h'.1 h.den)) (Nat.lt_of_lt_of_le (abs_mul_lt h.den h'.den) (Nat.pow_le_pow_right (by decide) (by omega)))
theorem Sz.mul (h : Sz j p) (h' : Sz j q) : Sz (j + j) (p * q) := by
  rw [← mul_div]
  exact sz_divI (dd_pos p q) (abs_mul_lt h.1 h'.1) (abs_mul_lt h.den h'.den)
theorem Sz.div (h : Sz j p) (h' : Sz j q) (hq : 0 < q) : Sz (j + j) (p / q) := by
  rw [← div_div hq]
  exact sz_divI (dn_pos p hq) (abs_mul_lt h.1 h'.den) (abs_mul_lt h.den h'.1)
end
end My

/-! own layer, 4: ratios and sources -/
namespace My
open PySem PySem.Spec PyProof.Rows L2
section
variable {K : PySem.W.Frag} {H H' : Hp} {a p : Addr} {xs : List V}
theorem tyT (h : SqT K H a xs) : TyX K H (.ref a) (.type "tuple") := by
  rcases h with (h | ⟨o, h⟩) | ⟨o, its, n, hk, hc, _⟩
  · exact .base (.tup h)
  · exact .fTuple h
  · exact .kTuple hk hc
/-- a list that changes is no tuple that is read -/
theorem seqT_but {l : List V} (hp : H p = some (.lst l)) (B : But p H H') (h : SqT K H a xs) : SqT K H' a xs := by
  rcases h with (h | ⟨o, h⟩) | h
  · exact .inl (.inl (B _ _ (fun z => by rw [z, hp] at h; cases h) h))
  · exact .inl (.inr ⟨o, B _ _ (fun z => by rw [z, hp] at h; cases h) h⟩)
  · exact .inr h
theorem Pot.but {n : Int} (hP : Pot H p n) (B : But p H H') (h : SqT K H a xs) : SqT K H' a xs := by
  obtain ⟨_, _, _, hp, _⟩ := hP
  exact seqT_but hp B h
theorem Pot.mono {n m : Int} (hP : Pot H p n) (h : n ≤ m) : Pot H p m := by
  obtain ⟨a, b, c, hp, h1, h2, h3, h4, h5⟩ := hP
  exact ⟨a, b, c, hp, h1, h2, h3, h4, Int.le_trans h5 h⟩
theorem Pot.same {n : Int} (hP : Pot H p n) (S : Same H H') : Pot H' p n := by
  obtain ⟨a, b, c, hp, h⟩ := hP
  exact ⟨a, b, c, S _ _ hp, h⟩
end
section
variable {K : PySem.W.Frag} {H : Hp} {Q : VK} {b : Bool}
theorem i_isiI {i : Int} {n : String} (e : kitB "int" n = some b) (h : Q (.bl b) H) : rIsi K [.int i, .ty n] H Q := ⟨_, _, _, _, b, rfl, .ty n, .base (.int i), kit_ty e, h⟩
theorem i_isiT {a : Addr} {xs : List V} {n : String} (hx : SqT K H a xs) (e : kitB "tuple" n = some b) (h : Q (.bl b) H) : rIsi K [.ref a, .ty n] H Q := ⟨_, _, _, _, b, rfl, .ty n, tyT hx, kit_ty e, h⟩
theorem i_tupg {n : Nat} {t : TGs} {a : Addr} {xs : List V} {σ : L2.St} {R : L2.St → Hp → Prop} (hx : SqT K H a xs) (hl : xs.length = n) (h : t xs σ H R) : gTup K n t (.ref a) σ H R := ⟨a, xs, rfl, hx, hl, h⟩
theorem i_gcons {t : TG} {u : TGs} {v : V} {r : List V} {σ : L2.St} {R : L2.St → Hp → Prop} (h : t v σ H fun σ' H' => u r σ' H' R) : gCons t u (v :: r) σ H R := ⟨v, r, rfl, h⟩
theorem i_gnil {σ : L2.St} {R : L2.St → Hp → Prop} (h : R σ H) : gNil [] σ H R := ⟨rfl, h⟩
end
/-- one value, an integer -/
def spIsInt : Sp := fun vs H Q _ => ∃ i : Int, vs = [.int i] ∧ Q (.bl true) H
def spIsRatio (K : PySem.W.Frag) : Sp := fun vs H Q _ => ∃ (a : Addr) (p : Rat), vs = [.ref a] ∧ SqT K H a (rat p) ∧ 0 ≤ p ∧ Q (.bl true) H
/-- two ratios and what comes of them: a new ratio -/
def spBin (K : PySem.W.Frag) (pre : Rat → Rat → Prop) (f : Rat → Rat → Rat) : Sp := fun vs H Q _ => ∃ (a b : Addr) (p q : Rat) (j : Nat), vs = [.ref a, .ref b] ∧ SqT K H a (rat p) ∧ SqT K H b (rat q) ∧ Sz j p ∧ Sz j q ∧ j ≤ 1900 ∧ pre p q ∧
  ∀ (r : Addr) (H' : Hp), Same H H' → H r = none → H' r = some (.tup (rat (f p q))) → Q (.ref r) H'
abbrev spPlus (K : PySem.W.Frag) : Sp := spBin K (fun _ _ => True) fun p q => p + q
abbrev spTimes (K : PySem.W.Frag) : Sp := spBin K (fun _ _ => True) fun p q => p * q
abbrev spOver (K : PySem.W.Frag) : Sp := spBin K (fun _ q => 0 < q) fun p q => p / q
/-- a comparison of two ratios -/
def spCmp (K : PySem.W.Frag) (f : Rat → Rat → Bool) : Sp := fun vs H Q _ => ∃ (a b : Addr) (p q : Rat) (j : Nat), vs = [.ref a, .ref b] ∧ SqT K H a (rat p) ∧ SqT K H b (rat q) ∧ Sz j p ∧ Sz j q ∧ j ≤ 1900 ∧ Q (.bl (f p q)) H
abbrev spAtLeast (K : PySem.W.Frag) : Sp := spCmp K fun p q => decide (q ≤ p)
theorem mulZ {i j : Int} {a : Nat} (h1 : i.natAbs < 2 ^ a) (h2 : j.natAbs < 2 ^ a) (h : a ≤ 100000) : CMulW i j :=
  wide_mul (a := a + 1) (b := a + 1) (Nat.lt_of_lt_of_le h1 (Nat.pow_le_pow_right (by decide) (by omega))) (Nat.lt_of_lt_of_le h2 (Nat.pow_le_pow_right (by decide) (by omega))) (by omega) (by omega) (by omega)
theorem pow_le_4000 {n j : Nat} (h : n < 2 ^ j) (hj : j ≤ 4000) : n < 2 ^ 4000 := Nat.lt_of_lt_of_le h (Nat.pow_le_pow_right (by decide) hj)
/-! ### sources -/
def srcF (v o : Addr) : List (Str × V) := [("_volts", .ref v), ("_ohms", .ref o)]
theorem srcF_eq (v o : Addr) : putF "_ohms" (.ref o) (putF "_volts" (.ref v) []) = srcF v o := by
  show (if ("_volts" : Str) = "_ohms" then _ else _ :: _) = _
  rw [if_neg (by decide +kernel)]
  rfl
theorem srcF_v (v o : Addr) : (srcF v o).lookup ("_volts" : Str) = some (.ref v) := rfl
theorem srcF_o (v o : Addr) : (srcF v o).lookup ("_ohms" : Str) = some (.ref o) := rfl
theorem srcF_no {v o : Addr} {m : Str} (h1 : ¬ m = "_volts") (h2 : ¬ m = "_ohms") : (srcF v o).lookup m = none := by
  unfold srcF
  rw [List.lookup_cons, List.lookup_cons, beq_false_of_ne h1, beq_false_of_ne h2]
  rfl
/-- a source of these volts and ohms stands at s -/
def SrcAt (K : PySem.W.Frag) (C : Addr) (H : Hp) (s : Addr) (v r : Rat) : Prop := ∃ dx a b, H s = some (.ins C dx (srcF a b)) ∧ SqT K H a (rat v) ∧ SqT K H b (rat r) ∧ 0 ≤ v ∧ 0 ≤ r
section
variable {K : PySem.W.Frag} {C : Addr} {H H' : Hp} {s p : Addr} {v r : Rat}
theorem SrcAt.same (h : SrcAt K C H s v r) (S : Same H H') : SrcAt K C H' s v r := by
  obtain ⟨dx, a, b, h1, h2, h3, h4⟩ := h
  exact ⟨dx, a, b, S _ _ h1, L2.Same.seqT S h2, L2.Same.seqT S h3, h4⟩
theorem SrcAt.but {n : Int} (h : SrcAt K C H s v r) (hP : Pot H p n) (B : But p H H') : SrcAt K C H' s v r := by
  obtain ⟨dx, a, b, h1, h2, h3, h4⟩ := h
  obtain ⟨x, y, z, hp, _⟩ := id hP
  exact ⟨dx, a, b, B _ _ (fun e => by rw [e, hp] at h1; cases h1) h1, hP.but B h2, hP.but B h3, h4⟩
end
/-- the volts, the ohms of a source -/
def spVolts (C : Addr) : Sp := fun vs H Q _ => ∃ s dx a b, vs = [.ref s] ∧ H s = some (.ins C dx (srcF a b)) ∧ Q (.ref a) H
def spOhms (C : Addr) : Sp := fun vs H Q _ => ∃ s dx a b, vs = [.ref s] ∧ H s = some (.ins C dx (srcF a b)) ∧ Q (.ref b) H
def spSrcInit (K : PySem.W.Frag) (C : Addr) : Sp := fun vs H Q _ => ∃ s dx a b v r, vs = [.ref s, .ref a, .ref b] ∧ H s = some (.ins C dx []) ∧ SqT K H a (rat v) ∧ SqT K H b (rat r) ∧ 0 ≤ v ∧ 0 ≤ r ∧
  ∀ H', But s H H' → H' s = some (.ins C dx (srcF a b)) → Q .non H'
/-- 1 + r * g -/
def spWeak (K : PySem.W.Frag) : Sp := fun vs H Q _ => ∃ (a b : Addr) (r g : Rat) (j : Nat), vs = [.ref a, .ref b] ∧ SqT K H a (rat r) ∧ SqT K H b (rat g) ∧ Sz j r ∧ Sz j g ∧ j ≤ 400 ∧ 0 ≤ r ∧ 0 ≤ g ∧
  ∀ (p : Addr) (H' : Hp), Same H H' → H p = none → H' p = some (.tup (rat (1 + r * g))) → Q (.ref p) H'
def spAt (K : PySem.W.Frag) (C : Addr) : Sp := fun vs H Q _ => ∃ (s b : Addr) (v r g : Rat) (j : Nat), vs = [.ref s, .ref b] ∧ SrcAt K C H s v r ∧ SqT K H b (rat g) ∧ Sz j v ∧ Sz j r ∧ Sz j g ∧ j ≤ 400 ∧ 0 ≤ g ∧
  ∀ (p : Addr) (H' : Hp), Same H H' → H p = none → H' p = some (.tup (rat (v / (1 + r * g)))) → Q (.ref p) H'
def spUnder (K : PySem.W.Frag) (C : Addr) : Sp := fun vs H Q _ => ∃ (s b : Addr) (v r g : Rat) (j : Nat), vs = [.ref s, .ref b] ∧ SrcAt K C H s v r ∧ SqT K H b (rat g) ∧ Sz j v ∧ Sz j r ∧ Sz j g ∧ j ≤ 400 ∧ 0 ≤ g ∧
  ∀ (p : Addr) (H' : Hp), Same H H' → H p = none → SrcAt K C H' p (v / (1 + r * g)) (r / (1 + r * g)) → Q (.ref p) H'
/-- whether one source covers another one -/
def strong (v r w s : Rat) : Bool := decide (w ≤ v) && decide (w * r ≤ v * s)
def spSrcCmp (K : PySem.W.Frag) (C : Addr) (f : Rat → Rat → Rat → Rat → Bool) : Sp := fun vs H Q _ => ∃ (s t : Addr) (v r w u : Rat) (j : Nat), vs = [.ref s, .ref t] ∧ SrcAt K C H s v r ∧ SrcAt K C H t w u ∧ Sz j v ∧ Sz j r ∧ Sz j w ∧ Sz j u ∧ j ≤ 800 ∧
  ∀ H', Same H H' → Q (.bl (f v r w u)) H'
/-- what isinstance asks of the class of an instance -/
structure InsC (K : PySem.W.Frag) (C : Addr) : Prop where
  ha : PySem.W.findIn K (.ref C) "__class__" = some (some (.builtin "object.__class__"))
  hn : PySem.W.specialIn K (.builtin "object.__class__") "__get__" = some (some (.builtin "getset_descriptor.__get__"))
  ht : PySem.W.takesIn K (.builtin "object.__class__") = some true
  hm : PySem.W.mroIn K C (.type "object") = some true
theorem i_isiS {K : PySem.W.Frag} {C : Addr} {H : Hp} {s dx : Addr} {fs : List (Str × V)} {Q : VK} (h : H s = some (.ins C dx fs)) (c : Cls K C) (y : InsC K C) (k : Q (.bl true) H) : rIsi K [.ref s, .ref C] H Q :=
  ⟨_, _, _, _, true, rfl, .own C, .base (.ins h c y.ha y.hn y.ht y.hm), by unfold PySem.W.kitOne; rw [if_pos (beq_self_eq_true _)], k⟩
/-! ### fields, properties, methods, makes: named, so that a step finds them -/
def FldQ (K : PySem.W.Frag) (f : Str) (x : V) (H : Hp) (Q : VK) : Prop := ∃ a C dx fs v, x = .ref a ∧ H a = some (.ins C dx fs) ∧ Cls K C ∧ NoAttr K C f ∧ fs.lookup f = some v ∧ Q v H
def PropQ (C : Addr) (sp : Sp) (dvs : List V) (E : XK) (x : V) (H : Hp) (Q : VK) : Prop := ∃ a dx fs, x = .ref a ∧ H a = some (.ins C dx fs) ∧ sp (.ref a :: dvs) H Q E
def MethQ (C : Addr) (m : Str) (sp : Sp) (dvs : List V) (E : XK) (t : TA) (σ : L2.St) (x : V) (H : Hp) (Q : VK) : Prop := ∃ a dx fs, x = .ref a ∧ H a = some (.ins C dx fs) ∧ fs.lookup m = none ∧ t σ H fun vs H2 => sp (x :: (vs ++ dvs)) H2 Q E
def MakeQ (C : Addr) (sp : Sp) (dvs : List V) (E : XK) (vs : List V) (H : Hp) (Q : VK) : Prop := ∀ x dx, H x = none → H dx = none → dx ≠ x → sp (.ref x :: (vs ++ dvs)) (upd (upd H dx (.own x)) x (.ins C dx [])) (fun v H2 => v = .non ∧ Q (.ref x) H2) E
section
variable {K : PySem.W.Frag} {σ : L2.St} {H : Hp} {ta : TE} {t : TA} {Q : VK} {C s a b dx : Addr} {sp : Sp} {dvs : List V} {E : XK} {m f : Str} {D : Ends} {v r : Rat} {te : TE}
theorem i_fld0 (h : ta σ H fun x H1 => FldQ K f x H1 Q) : tFld K ta f σ H Q := h
theorem i_prop (h : ta σ H fun x H1 => PropQ C sp dvs E x H1 Q) : tProp C sp dvs E ta σ H Q := h
theorem i_meth (h : ta σ H fun x H1 => MethQ C m sp dvs E t σ x H1 Q) : tMeth C m sp dvs E ta t σ H Q := h
theorem i_make (h : t σ H fun vs H1 => MakeQ C sp dvs E vs H1 Q) : tMake C sp dvs E t σ H Q := h
theorem i_fv (h : H s = some (.ins C dx (srcF a b))) (c : Cls K C) (n : NoAttr K C "_volts") (k : Q (.ref a) H) : FldQ K "_volts" (.ref s) H Q := ⟨s, C, dx, _, _, rfl, h, c, n, srcF_v a b, k⟩
theorem i_fo (h : H s = some (.ins C dx (srcF a b))) (c : Cls K C) (n : NoAttr K C "_ohms") (k : Q (.ref b) H) : FldQ K "_ohms" (.ref s) H Q := ⟨s, C, dx, _, _, rfl, h, c, n, srcF_o a b, k⟩
theorem i_pv (h : H s = some (.ins C dx (srcF a b))) (k : Q (.ref a) H) : PropQ C (spVolts C) [] E (.ref s) H Q := ⟨s, dx, _, rfl, h, s, dx, a, b, rfl, h, k⟩
theorem i_po (h : H s = some (.ins C dx (srcF a b))) (k : Q (.ref b) H) : PropQ C (spOhms C) [] E (.ref s) H Q := ⟨s, dx, _, rfl, h, s, dx, a, b, rfl, h, k⟩
theorem i_me (h : H s = some (.ins C dx (srcF a b))) (h1 : ¬ m = "_volts") (h2 : ¬ m = "_ohms") (k : t σ H fun vs H2 => sp (.ref s :: (vs ++ dvs)) H2 Q E) : MethQ C m sp dvs E t σ (.ref s) H Q := ⟨s, dx, _, rfl, h, srcF_no h1 h2, k⟩
theorem i_mkS (ha : SqT K H a (rat v)) (hb : SqT K H b (rat r)) (hv : 0 ≤ v) (hr : 0 ≤ r) (k : ∀ s H2, Same H H2 → H s = none → SrcAt K C H2 s v r → Q (.ref s) H2) : MakeQ C (spSrcInit K C) [] E [.ref a, .ref b] H Q := by
  intro x dx hx hd hne
  have S : Same H (upd (upd H dx (.own x)) x (.ins C dx [])) := fun c o e => by
    rw [upd_ne (ne_of_none e hx), upd_ne (ne_of_none e hd)]
    exact e
  refine ⟨x, dx, a, b, v, r, rfl, upd_same, L2.Same.seqT S ha, L2.Same.seqT S hb, hv, hr, fun H' B e => ⟨rfl, ?_⟩⟩
  have S2 : Same H H' := fun c o e => B c o (ne_of_none e hx) (S c o e)
  exact k x H' S2 hx ⟨dx, a, b, e, L2.Same.seqT S2 ha, L2.Same.seqT S2 hb, hv, hr⟩
/-- self.f = e -/
theorem i_sfld (h : te σ H fun y H1 => ta σ H1 fun x H2 => ∃ a C dx fs, x = .ref a ∧ H2 a = some (.ins C dx fs) ∧ Cls K C ∧ NoAttr K C f ∧ fs.length < 1000 ∧ D.nx σ (upd H2 a (.ins C dx (putF f y fs)))) : sFld K ta te f D σ H := h
theorem one_pos {r g : Rat} (hr : 0 ≤ r) (hg : 0 ≤ g) : 0 < 1 + r * g := by
  have := Rat.mul_nonneg hr hg
  grind
theorem div_nn {p q : Rat} (hp : 0 ≤ p) (hq : 0 < q) : 0 ≤ p / q := by
  rw [Rat.div_def]
  exact Rat.mul_nonneg hp (Rat.le_of_lt (Rat.inv_pos.mpr hq))
theorem sz_one {j : Nat} (h : 0 < j) : Sz j 1 := ⟨Nat.one_lt_pow (by omega) (by decide), Nat.one_lt_pow (by omega) (by decide)⟩
theorem Sz.weak {j : Nat} {r g : Rat} (h1 : Sz j r) (h2 : Sz j g) : Sz (2 * j + 2 * j + 3) (1 + r * g) := by
  have a := (h1.mul h2).mono (k := 2 * j + 1) (by omega)
  exact ((sz_one (j := 2 * j + 1) (by omega)).add a).mono (by omega)
end
end My

/-! own layer: what is walked, list comprehensions -/
namespace My
open PySem PySem.Spec PyProof.Rows L2
def LcQ (J : It) (g : TG) (tt : TT) (te : TE) (vs : List Nat) (σ : L2.St) (H1 : Hp) (Q : VK) : Prop := ∀ D, H1 D = none → ∃ W : Nat → Nat → Hp → Prop, (∃ m, W 0 m (upd H1 D (.lst []))) ∧ ∀ i m H, W i m H →
  (J.stop i H ∧ Q (.ref D) H) ∨ (J.go i H ∧ ∃ Nx : Hp → Prop, (∀ H', Nx H' → ∃ m', m' < m ∧ W (i + 1) m' H') ∧ ∀ x H', J.yld i H x H' → g x (wipe σ vs) H' fun σ2 H2 => wipe σ2 vs = wipe σ vs ∧ tt σ2 H2 fun b H3 =>
    if b = true then te σ2 H3 fun y H4 => ∃ acc, H4 D = some (.lst acc) ∧ acc.length < sizeLine ∧ Nx (upd H4 D (.lst (acc ++ [y]))) else Nx H3)
def ForQ (J : It) (g : TG) (tb : TS) (D : Ends) (σ : L2.St) (H1 : Hp) : Prop := ∃ W : Nat → Nat → L2.St → Hp → Prop, (∃ m, W 0 m σ H1) ∧ ∀ i m σ H, W i m σ H →
  (J.stop i H ∧ D.nx σ H) ∨ (J.go i H ∧ ∃ N : L2.St → Hp → Prop, (∀ σ' H', N σ' H' → ∃ m', m' < m ∧ W (i + 1) m' σ' H') ∧ ∀ x H', J.yld i H x H' → g x σ H' fun σ2 H2 => tb { D with nx := N, ct := N, bk := D.nx } σ2 H2)
def RngQ (vs : List V) (H : Hp) (R : It → Hp → Prop) : Prop := ∃ j : Int, vs = [.int j] ∧ -(2 ^ 62) ≤ j ∧ j < 2 ^ 62 ∧ R (Itr 0 j.toNat) H
def WlkL (K : PySem.W.Frag) (x : V) (H : Hp) (R : It → Hp → Prop) : Prop := ∃ a, x = .ref a ∧ (∃ xs, SqL K H a xs) ∧ R (Itl K a) H
def WlkT (K : PySem.W.Frag) (x : V) (H : Hp) (R : It → Hp → Prop) : Prop := ∃ a, x = .ref a ∧ (∃ xs, SqT K H a xs) ∧ R (Itt K a) H
section
variable {K : PySem.W.Frag} {σ : L2.St} {H : Hp} {wi : TI} {g : TG} {tt : TT} {te tl : TE} {tb : TS} {ta : TA} {vs : List Nat} {Q : VK} {D : Ends} {R : It → Hp → Prop} {a : Addr} {xs : List V}
theorem i_lc (h : wi σ H fun J H1 => LcQ J g tt te vs σ H1 Q) : tLc wi g tt te vs σ H Q := h
theorem i_for (h : wi σ H fun J H1 => ForQ J g tb D σ H1) : tFor wi g tb D σ H := h
theorem i_rng (h : ta σ H fun vs H1 => RngQ vs H1 R) : iRng1 ta σ H R := h
theorem i_rngv {j : Int} (h1 : -(2 ^ 62) ≤ j) (h2 : j < 2 ^ 62) (h : R (Itr 0 j.toNat) H) : RngQ [.int j] H R := ⟨j, rfl, h1, h2, h⟩
theorem i_wl (h : tl σ H fun x H1 => WlkL K x H1 R) : iList K tl σ H R := h
theorem i_wt (h : tl σ H fun x H1 => WlkT K x H1 R) : iTup K tl σ H R := h
theorem i_wlv (hl : SqL K H a xs) (h : R (Itl K a) H) : WlkL K (.ref a) H R := ⟨a, rfl, ⟨xs, hl⟩, h⟩
theorem i_wtv (hl : SqT K H a xs) (h : R (Itt K a) H) : WlkT K (.ref a) H R := ⟨a, rfl, ⟨xs, hl⟩, h⟩
/-- what a turn's element is to reach -/
def TurnP (Pv : Addr → Nat → Hp → List V → Prop) (A : Addr) (i : Nat) : VK := fun y H4 => ∃ acc, H4 A = some (.lst acc) ∧ acc.length < sizeLine ∧
  ∃ acc', acc'.length = i + 1 ∧ upd H4 A (.lst (acc ++ [y])) A = some (.lst acc') ∧ Pv A (i + 1) (upd H4 A (.lst (acc ++ [y]))) acc'
theorem turn_end {Pv : Addr → Nat → Hp → List V → Prop} {A : Addr} {i : Nat} {acc : List V} {y : V} (h : H A = some (.lst acc)) (hl : acc.length = i) (hi : i < 1000000) (k : ∀ H5, But A H H5 → H5 A = some (.lst (acc ++ [y])) → Pv A (i + 1) H5 (acc ++ [y])) : TurnP Pv A i y H :=
  ⟨acc, h, by rw [hl]; exact Nat.lt_trans hi (by decide), acc ++ [y], by rw [List.length_append, hl]; rfl, upd_same, k _ But.upd upd_same⟩
theorem lcq_range {lo : Int} {n : Nat} (Pv : Addr → Nat → Hp → List V → Prop) (h0 : ∀ A H', Same H H' → H A = none → H' A = some (.lst []) → Pv A 0 H' [])
    (hs : ∀ A i H' acc, i < n → acc.length = i → H' A = some (.lst acc) → Pv A i H' acc → g (.int (lo + i)) (wipe σ vs) H' fun σ2 H2 => wipe σ2 vs = wipe σ vs ∧ te σ2 H2 (TurnP Pv A i))
    (hd : ∀ A H' acc, acc.length = n → H' A = some (.lst acc) → Pv A n H' acc → Q (.ref A) H') : LcQ (Itr lo n) g tYes te vs σ H Q := by
  intro A hA
  refine lc_range (fun i H' => ∃ acc, acc.length = i ∧ H' A = some (.lst acc) ∧ Pv A i H' acc) ⟨[], rfl, upd_same, h0 A _ (fun b u e => by rw [upd_ne (ne_of_none e hA)]; exact e) hA upd_same⟩ ?_ (fun H' ⟨acc, h1, h2, h3⟩ => hd A H' acc h1 h2 h3)
  rintro i H' hi ⟨acc, hl, hA', hP⟩
  exact hs A i H' acc hi hl hA' hP
theorem lcq_list {xs : List V} {a : Addr} (Pv : Addr → Nat → Hp → List V → Prop) (h0 : ∀ A H', Same H H' → H A = none → H' A = some (.lst []) → Pv A 0 H' []) (hl : ∀ A i H' acc, H' A = some (.lst acc) → Pv A i H' acc → SqL K H' a xs)
    (hs : ∀ A i x H' acc, xs[i]? = some x → acc.length = i → H' A = some (.lst acc) → Pv A i H' acc → g x (wipe σ vs) H' fun σ2 H2 => wipe σ2 vs = wipe σ vs ∧ te σ2 H2 (TurnP Pv A i))
    (hd : ∀ A H' acc, acc.length = xs.length → H' A = some (.lst acc) → Pv A xs.length H' acc → Q (.ref A) H') : LcQ (Itl K a) g tYes te vs σ H Q := by
  intro A hA
  refine lc_list (xs := xs) (fun i H' => ∃ acc, acc.length = i ∧ H' A = some (.lst acc) ∧ Pv A i H' acc) ⟨[], rfl, upd_same, h0 A _ (fun b u e => by rw [upd_ne (ne_of_none e hA)]; exact e) hA upd_same⟩ (fun i H' _ ⟨acc, h1, h2, h3⟩ => hl A i H' acc h2 h3) ?_ (fun H' ⟨acc, h1, h2, h3⟩ => hd A H' acc h1 h2 h3)
  rintro i x H' hx ⟨acc, hl, hA', hP⟩
  exact hs A i x H' acc hx hl hA' hP
theorem lcq_tup {xs : List V} {a : Addr} (Pv : Addr → Nat → Hp → List V → Prop) (h0 : ∀ A H', Same H H' → H A = none → H' A = some (.lst []) → Pv A 0 H' []) (hl : ∀ A i H' acc, H' A = some (.lst acc) → Pv A i H' acc → SqT K H' a xs)
    (hs : ∀ A i x H' acc, xs[i]? = some x → acc.length = i → H' A = some (.lst acc) → Pv A i H' acc → g x (wipe σ vs) H' fun σ2 H2 => wipe σ2 vs = wipe σ vs ∧ te σ2 H2 (TurnP Pv A i))
    (hd : ∀ A H' acc, acc.length = xs.length → H' A = some (.lst acc) → Pv A xs.length H' acc → Q (.ref A) H') : LcQ (Itt K a) g tYes te vs σ H Q := by
  intro A hA
  refine lc_tup (xs := xs) (fun i H' => ∃ acc, acc.length = i ∧ H' A = some (.lst acc) ∧ Pv A i H' acc) ⟨[], rfl, upd_same, h0 A _ (fun b u e => by rw [upd_ne (ne_of_none e hA)]; exact e) hA upd_same⟩ (fun i H' _ ⟨acc, h1, h2, h3⟩ => hl A i H' acc h2 h3) ?_ (fun H' ⟨acc, h1, h2, h3⟩ => hd A H' acc h1 h2 h3)
  rintro i x H' hx ⟨acc, hl, hA', hP⟩
  exact hs A i x H' acc hx hl hA' hP
theorem forq_list {K : PySem.W.Frag} {a : Addr} {xs : List V} {g : TG} {tb : TS} {D : Ends} {σ : L2.St} {H : Hp} (Pv : Nat → L2.St → Hp → Prop) (h0 : Pv 0 σ H) (hl : ∀ i σ H, i ≤ xs.length → Pv i σ H → SqL K H a xs)
    (hs : ∀ i x σ H, xs[i]? = some x → Pv i σ H → g x σ H fun σ2 H2 => tb { D with nx := Pv (i + 1), ct := Pv (i + 1), bk := D.nx } σ2 H2) (hd : ∀ σ H, Pv xs.length σ H → D.nx σ H) : ForQ (Itl K a) g tb D σ H := for_list Pv h0 hl hs hd
theorem forq_tup {K : PySem.W.Frag} {a : Addr} {xs : List V} {g : TG} {tb : TS} {D : Ends} {σ : L2.St} {H : Hp} (Pv : Nat → L2.St → Hp → Prop) (h0 : Pv 0 σ H) (hl : ∀ i σ H, i ≤ xs.length → Pv i σ H → SqT K H a xs)
    (hs : ∀ i x σ H, xs[i]? = some x → Pv i σ H → g x σ H fun σ2 H2 => tb { D with nx := Pv (i + 1), ct := Pv (i + 1), bk := D.nx } σ2 H2) (hd : ∀ σ H, Pv xs.length σ H → D.nx σ H) : ForQ (Itt K a) g tb D σ H := for_tup Pv h0 hl hs hd
/-! ### all, any; unpacking a list; three at once -/
theorem i_all {bs : List Bool} {a : Addr} (hl : SqL K H a (bs.map V.bl)) (h : Q (.bl (bs.all id)) H) : rAll K [.ref a] H Q := ⟨a, bs, rfl, hl, h⟩
theorem i_any {bs : List Bool} {a : Addr} (hl : SqL K H a (bs.map V.bl)) (h : Q (.bl (bs.any id)) H) : rAny K [.ref a] H Q := ⟨a, bs, rfl, hl, h⟩
theorem i_unl {n : Nat} {t : TGs} {a : Addr} {xs : List V} {σ : L2.St} {R : L2.St → Hp → Prop} (hx : SqL K H a xs) (hl : xs.length = n) (h : t xs σ H R) : gUnl K n t (.ref a) σ H R := ⟨a, xs, rfl, hx, hl, h⟩
theorem i_par3 {i j l : Nat} {ta : TA} (h : ta σ H fun vs H1 => ∃ u v w, vs = [u, v, w] ∧ D.nx (((σ.set i (some u)).set j (some v)).set l (some w)) H1) : tPar3 i j l ta D σ H := h
theorem i_three {x y z : V} {P : V → V → V → Prop} (h : P x y z) : ∃ u v w, [x, y, z] = [u, v, w] ∧ P u v w := ⟨x, y, z, rfl, h⟩
end
end My

/-! what the helpers of one law promise: sources compared -/
namespace My
open PySem PySem.Spec PyProof.Rows L2
section
variable {X : Cx}
def rReprB : List V → Hp → VK → Prop := fun xs H Q => ∃ b, xs = [.bl b] ∧ Q (.str (if b then "True" else "False")) H
theorem op_eqK {K : PySem.W.Frag} (hu : X.A.units + 64 < cLine) (hK : X.K = K) : OpR X (compareOp .Eq) (rEqD K) := by
  subst hK
  exact op_eqD hu
theorem pg_tupK {K : PySem.W.Frag} {es : List Expr} {i n : Nat} {pos : Pos} {t : TGs} (hc : X.calm = true) (hK : X.K = K) (h : PGs X es t) (hn : (assignEach es X.env).length = n := by rfl) (hs : List.findIdx? (fun x => x.fst) (assignEach es X.env) = none := by rfl) : PG X (.Tuple es i pos) (gTup K n t) := by
  subst hK
  exact pg_tup hc h hn hs
theorem cr_reprB : CallR X (.builtin "repr") rReprB := by
  intro pins s σ H xs us Q I r h
  obtain ⟨b, rfl, q⟩ := h
  cases r with
  | cons r1 rr =>
    cases rr
    cases r1
    exact PySem.P.repr_of_bool ⟨.str _, H, I.tok _, ⟨_, rfl⟩, q⟩
end
section
variable {H : Hp} {Q : VK}
theorem i_reprB {b : Bool} (h : Q (.str (if b then "True" else "False")) H) : rReprB [.bl b] H Q := ⟨b, rfl, h⟩
theorem i_neS {x y : Str} (e : x = y) (h : Q (.bl false) H) : rNe (.str x) (.str y) H Q := ⟨rfl, by rw [e, decide_eq_true rfl]; exact h⟩
end
theorem div_nnI {a b : Int} (ha : 0 ≤ a) (hb : 0 < b) : (0 : Rat) ≤ (a : Rat) / (b : Rat) := div_nn (by exact_mod_cast ha) (by exact_mod_cast hb)
theorem i_eqB {H : Hp} {Q : VK} {a b : Int} (h1 : a = b → Q (.bl true) H) (h2 : ¬ a = b → Q (.bl false) H) : rEq (.int a) (.int b) H Q :=
  if e : a = b then i_eqT e (h1 e) else i_eqF e (h2 e)
theorem sz_zero : Sz 1 0 := ⟨by decide, by decide⟩
theorem ite_d2 {c A B : Prop} [Decidable c] (h1 : c → A) (h2 : ¬ c → B) : if decide c = true then A else B :=
  if e : c then ite_d e (h1 e) else ite_dn e (h2 e)
theorem not_less {x y : Rat} : (!decide (x < y)) = (true && decide (y ≤ x)) := by
  rw [Bool.true_and, ← decide_not, decide_eq_decide]
  exact Rat.not_lt
abbrev spLess (K : PySem.W.Frag) : Sp := spCmp K fun p q => decide (p < q)
/-- a pair of ratios: volts, ohms -/
def PairAt (K : PySem.W.Frag) (H : Hp) (s : Addr) (v r : Rat) : Prop := ∃ a b, SqT K H s [.ref a, .ref b] ∧ SqT K H a (rat v) ∧ SqT K H b (rat r) ∧ 0 ≤ v ∧ 0 ≤ r
section
variable {K : PySem.W.Frag} {H H' : Hp} {s p : Addr} {v r : Rat}
theorem PairAt.same (h : PairAt K H s v r) (S : Same H H') : PairAt K H' s v r := by
  obtain ⟨a, b, h1, h2, h3, h4⟩ := h
  exact ⟨a, b, S.seqT h1, S.seqT h2, S.seqT h3, h4⟩
theorem PairAt.but {n : Int} (h : PairAt K H s v r) (hP : Pot H p n) (B : But p H H') : PairAt K H' s v r := by
  obtain ⟨a, b, h1, h2, h3, h4⟩ := h
  exact ⟨a, b, hP.but B h1, hP.but B h2, hP.but B h3, h4⟩
end
theorem PairAt.butL {K : PySem.W.Frag} {H H' : Hp} {s p : Addr} {v r : Rat} {ys : List V} (h : PairAt K H s v r) (hp : H p = some (.lst ys)) (B : But p H H') : PairAt K H' s v r := by
  obtain ⟨a, b, h1, h2, h3, h4⟩ := h
  exact ⟨a, b, seqT_but hp B h1, seqT_but hp B h2, seqT_but hp B h3, h4⟩
theorem Sz.read {j : Nat} {v r g : Rat} (h1 : Sz j v) (h2 : Sz j r) (h3 : Sz j g) (hr : 0 ≤ r) (hg : 0 ≤ g) : Sz (8 * j + 6) (v / (1 + r * g)) :=
  ((h1.mono (by omega)).div (h2.weak h3) (one_pos hr hg)).mono (by omega)
def spRead (K : PySem.W.Frag) : Sp := fun vs H Q _ => ∃ (a s : Addr) (g v r : Rat) (j : Nat), vs = [.ref a, .ref s] ∧ SqT K H a (rat g) ∧ PairAt K H s v r ∧ 0 ≤ g ∧ Sz j g ∧ Sz j v ∧ Sz j r ∧ j ≤ 400 ∧
  ∀ (p : Addr) (H' : Hp), Same H H' → H p = none → H' p = some (.tup (rat (v / (1 + r * g)))) → Q (.ref p) H'
def spFair (K : PySem.W.Frag) : Sp := fun vs H Q _ => ∃ (p : Addr) (n : Int), vs = [.ref p] ∧ Pot H p n ∧ n < 900000 ∧
  ∀ (a : Addr) (H' : Hp) (q : Rat), But p H H' → Pot H' p (n + 5) → H a = none → SqT K H' a (rat q) → 0 ≤ q → Sz 20 q → Q (.ref a) H'
def spNear (K : PySem.W.Frag) : Sp := fun vs H Q _ => ∃ (p s : Addr) (n : Int) (v r : Rat) (j : Nat), vs = [.ref p, .ref s] ∧ Pot H p n ∧ n < 800000 ∧ PairAt K H s v r ∧ Sz j v ∧ Sz j r ∧ 20 ≤ j ∧ j ≤ 200 ∧
  ∀ (a : Addr) (H' : Hp) (w u : Rat), But p H H' → Pot H' p (n + 20) → PairAt K H' a w u → Sz (j + j) w → Sz (j + j) u → Q (.ref a) H'
def spIsStrong (K : PySem.W.Frag) : Sp := fun vs H Q _ => ∃ (s t : Addr) (v r w u : Rat) (j : Nat), vs = [.ref s, .ref t] ∧ PairAt K H s v r ∧ PairAt K H t w u ∧ Sz j v ∧ Sz j r ∧ Sz j w ∧ Sz j u ∧ j ≤ 400 ∧
  ∀ H', Same H H' → Q (.bl (strong v r w u)) H'
/-- loads beside which one reads less than other -/
def Weak (K : PySem.W.Frag) (H : Hp) (v r w u : Rat) (x : V) : Prop := ∃ a g, x = .ref a ∧ SqT K H a (rat g) ∧ 0 ≤ g ∧ Sz 40 g ∧ v / (1 + r * g) < w / (1 + u * g)
theorem Weak.same {K : PySem.W.Frag} {H H' : Hp} {v r w u : Rat} {x : V} (h : Weak K H v r w u x) (S : Same H H') : Weak K H' v r w u x := by
  obtain ⟨a, g, e, h1, h2⟩ := h
  exact ⟨a, g, e, S.seqT h1, h2⟩
theorem Weak.butL {K : PySem.W.Frag} {H H' : Hp} {p : Addr} {ys : List V} {v r w u : Rat} {x : V} (h : Weak K H v r w u x) (hp : H p = some (.lst ys)) (B : But p H H') : Weak K H' v r w u x := by
  obtain ⟨a, g, e, h1, h2⟩ := h
  exact ⟨a, g, e, seqT_but hp B h1, h2⟩
theorem rat_int (i : Int) : [V.int i, V.int 1] = rat (i : Rat) := rfl
theorem sz_int {i : Int} {k : Nat} (h : i.natAbs < 2 ^ k) (hk : 0 < k) : Sz k (i : Rat) := ⟨h, Nat.one_lt_pow (by omega) (by decide)⟩
def spWeakLoads (K : PySem.W.Frag) : Sp := fun vs H Q _ => ∃ (s t : Addr) (v r w u : Rat) (j : Nat), vs = [.ref s, .ref t] ∧ PairAt K H s v r ∧ PairAt K H t w u ∧ Sz j v ∧ Sz j r ∧ Sz j w ∧ Sz j u ∧ j ≤ 100 ∧
  ∀ (l : Addr) (H' : Hp) (xs : List V), Same H H' → H l = none → H' l = some (.lst xs) → xs.length ≤ 100 → (∀ x ∈ xs, Weak K H' v r w u x) → Q (.ref l) H'
def spTwo (K : PySem.W.Frag) : Sp := fun vs H Q _ => ∃ (p s t : Addr) (n : Int) (v r w u : Rat), vs = [.ref p, .ref s, .ref t] ∧ Pot H p n ∧ n < 800000 ∧ PairAt K H s v r ∧ PairAt K H t w u ∧ Sz 100 v ∧ Sz 100 r ∧ Sz 100 w ∧ Sz 100 u ∧
  ∀ H', But p H H' → Pot H' p (n + 20) → Q (.bl true) H'
/-- one round of a law: the pot may be drawn from, the answer is True -/
def spRound (m : Int) : Sp := fun vs H Q _ => ∃ (p : Addr) (n : Int), vs = [.ref p] ∧ Pot H p n ∧ n < 100000 ∧ ∀ H', But p H H' → Pot H' p (n + m) → Q (.bl true) H'
def spLaw (K : PySem.W.Frag) : Sp := fun vs H Q _ => ∃ (a : Addr) (ns : List Int), vs = [.ref a] ∧ SqL K H a (ns.map V.int) ∧ ns.length ≤ 63 ∧ ∀ H', Q (.bl true) H'
theorem strong_self {v r : Rat} : strong v r v r = true := by
  unfold strong
  rw [decide_eq_true (Rat.le_refl (a := v)), decide_eq_true (Rat.le_refl (a := v * r))]
  rfl
theorem strong_iff {v r w u : Rat} : strong v r w u = true ↔ w ≤ v ∧ w * r ≤ v * u := by
  unfold strong
  rw [Bool.and_eq_true, decide_eq_true_iff, decide_eq_true_iff]
theorem div_mul_self {p q : Rat} (hq : 0 < q) : p / q * q = p := by
  have : q ≠ 0 := fun z => by rw [z] at hq; exact absurd hq (by decide)
  grind
theorem cross_lt {a b c d : Rat} (hb : 0 < b) (hd : 0 < d) : a / b < c / d ↔ a * d < c * b := by
  rw [Rat.div_lt_iff hb]
  have e : c / d * b = c * b / d := by grind
  rw [e, Rat.lt_div_iff hd]
theorem cross_eq {a b c d : Rat} (hb : 0 < b) (hd : 0 < d) : a / b = c / d ↔ a * d = c * b := by
  have h1 : b ≠ 0 := fun z => by rw [z] at hb; exact absurd hb (by decide)
  have h2 : d ≠ 0 := fun z => by rw [z] at hd; exact absurd hd (by decide)
  grind
theorem due_read {v r w u g : Rat} (h : strong v r w u = true) (hr : 0 ≤ r) (hu : 0 ≤ u) (hg : 0 ≤ g) : ¬ v / (1 + r * g) < w / (1 + u * g) := by
  obtain ⟨h1, h2⟩ := strong_iff.mp h
  rw [cross_lt (one_pos hr hg) (one_pos hu hg), Rat.not_lt]
  have := Rat.mul_le_mul_of_nonneg_right h2 hg
  have e1 : w * (1 + r * g) = w + w * r * g := by grind
  have e2 : v * (1 + u * g) = v + v * u * g := by grind
  rw [e1, e2]
  grind
theorem both_iff {v r w u : Rat} (h : strong v r w u = true) (hr : 0 ≤ r) (hu : 0 ≤ u) : strong w u v r = (decide (v / (1 + r * 0) = w / (1 + u * 0)) && (decide (v / (1 + r * 1) = w / (1 + u * 1)) && decide (v / (1 + r * 2) = w / (1 + u * 2)))) := by
  obtain ⟨h1, h2⟩ := strong_iff.mp h
  have c0 := cross_eq (a := v) (c := w) (one_pos hr (g := 0) (by decide)) (one_pos hu (g := 0) (by decide))
  have c1 := cross_eq (a := v) (c := w) (one_pos hr (g := 1) (by decide)) (one_pos hu (g := 1) (by decide))
  have c2 := cross_eq (a := v) (c := w) (one_pos hr (g := 2) (by decide)) (one_pos hu (g := 2) (by decide))
  rw [Bool.eq_iff_iff, strong_iff, Bool.and_eq_true, Bool.and_eq_true, decide_eq_true_iff, decide_eq_true_iff, decide_eq_true_iff, c0, c1, c2]
  constructor
  · rintro ⟨h3, h4⟩
    have e1 := Rat.le_antisymm h1 h3
    have e2 := Rat.le_antisymm h2 h4
    refine ⟨?_, ?_, ?_⟩ <;> grind
  · rintro ⟨h3, h4, -⟩
    have e1 : v = w := by grind
    have e2 : v * u = w * r := by grind
    exact ⟨by rw [e1]; exact Rat.le_refl, by rw [e2]; exact Rat.le_refl⟩
theorem rat_inj {p q : Rat} : (decide (p.num = q.num) && decide ((p.den : Int) = (q.den : Int))) = decide (p = q) := by
  rw [Bool.eq_iff_iff, Bool.and_eq_true, decide_eq_true_iff, decide_eq_true_iff, decide_eq_true_iff]
  constructor
  · rintro ⟨h1, h2⟩
    exact Rat.ext h1 (by exact_mod_cast h2)
  · rintro rfl
    exact ⟨rfl, rfl⟩
theorem i_eqBl {H : Hp} {Q : VK} {a b : Bool} (h : Q (.bl (a == b)) H) : rEq (.bl a) (.bl b) H Q := ⟨rfl, by
  have e : decide (V.bl a = V.bl b) = (a == b) := by cases a <;> cases b <;> decide
  rw [e]
  exact h⟩
theorem i_eqDR {K : PySem.W.Frag} {H : Hp} {Q : VK} {a b : Addr} {p q : Rat} (ha : SqT K H a (rat p)) (hb : SqT K H b (rat q)) (h : Q (.bl (decide (p = q))) H) : rEqD K (.ref a) (.ref b) H Q := by
  refine ⟨.tuple [.int p.num, .int p.den], .tuple [.int q.num, .int q.den], .tup ha (.cons (.int _) (.cons (.int _) .nil)), .tup hb (.cons (.int _) (.cons (.int _) .nil)), rfl, rfl, ?_⟩
  have e : PyData.eqv (.tuple [.int p.num, .int p.den]) (.tuple [.int q.num, .int q.den]) = decide (p = q) := by
    rw [← rat_inj]
    simp [PyData.eqv, PyData.eqvAll]
    rfl
  rw [e]
  exact h
theorem i_srcCmp {K : PySem.W.Frag} {C : Addr} {H : Hp} {Q : VK} {f : Rat → Rat → Rat → Rat → Bool} {s t : Addr} {v r w u : Rat} {j : Nat} (A1 : SrcAt K C H s v r) (A2 : SrcAt K C H t w u) (zv : Sz j v) (zr : Sz j r) (zw : Sz j w) (zu : Sz j u) (hj : j ≤ 800)
    (k : ∀ H', Same H H' → Q (.bl (f v r w u)) H') : rOwn C (spSrcCmp K C f) (.ref s) (.ref t) H Q := by
  obtain ⟨d1, a1, b1, e1, _⟩ := id A1
  obtain ⟨d2, a2, b2, e2, _⟩ := id A2
  exact ⟨_, _, _, _, _, _, rfl, rfl, e1, e2, _, _, _, _, _, _, j, rfl, A1, A2, zv, zr, zw, zu, hj, k⟩
theorem strong_trans {v1 r1 v2 r2 v3 r3 : Rat} (h12 : strong v1 r1 v2 r2 = true) (h23 : strong v2 r2 v3 r3 = true) (p1 : 0 ≤ v1) (p2 : 0 ≤ v2) (p3 : 0 ≤ v3) (q3 : 0 ≤ r3) : strong v1 r1 v3 r3 = true := by
  obtain ⟨a1, a2⟩ := strong_iff.mp h12
  obtain ⟨b1, b2⟩ := strong_iff.mp h23
  refine strong_iff.mpr ⟨Rat.le_trans b1 a1, ?_⟩
  rcases Rat.le_iff_lt_or_eq.mp p2 with hp | hz
  · refine Rat.not_lt.mp fun z => ?_
    have c1 := Rat.mul_le_mul_of_nonneg_right a2 p3
    have c2 := Rat.mul_le_mul_of_nonneg_right b2 p1
    have c3 := Rat.mul_lt_mul_of_pos_right z hp
    grind
  · have e : v3 = 0 := Rat.le_antisymm (by rw [← hz] at b1; exact b1) p3
    rw [e, Rat.zero_mul]
    exact Rat.mul_nonneg p1 q3
theorem SrcAt.butL {K : PySem.W.Frag} {C : Addr} {H H' : Hp} {s p : Addr} {v r : Rat} {ys : List V} (h : SrcAt K C H s v r) (hp : H p = some (.lst ys)) (B : But p H H') : SrcAt K C H' s v r := by
  obtain ⟨dx, a, b, h1, h2, h3, h4⟩ := h
  exact ⟨dx, a, b, B _ _ (fun e => by rw [e, hp] at h1; cases h1) h1, seqT_but hp B h2, seqT_but hp B h3, h4⟩
theorem Pot.butA {H H' : Hp} {p A : Addr} {n : Int} (hP : Pot H p n) (h : p ≠ A) (B : But A H H') : Pot H' p n := by
  obtain ⟨x, y, z, hp, hh⟩ := hP
  exact ⟨x, y, z, B _ _ h hp, hh⟩
theorem Pot.ne {H : Hp} {p A : Addr} {n : Int} (hP : Pot H p n) (h : H A = none) : p ≠ A := by
  obtain ⟨_, _, _, hp, _⟩ := hP
  exact ne_of_none hp h
theorem rgV_at {j i : Nat} {x : V} (h : (rgV 0 j)[i]? = some x) : x = .int i ∧ i < j := by
  unfold rgV at h
  rw [List.getElem?_map] at h
  have e : ((j : Int) - 0).toNat = j := by omega
  rw [e] at h
  rcases Nat.lt_or_ge i j with hi | hi
  · rw [List.getElem?_range hi] at h
    have h2 : V.int (0 + (i : Int)) = x := Option.some.inj h
    rw [← h2, Int.zero_add]
    exact ⟨rfl, hi⟩
  · rw [List.getElem?_eq_none (by rw [List.length_range]; exact hi)] at h
    cases h
end My

/-! own layer, 7: sources put together -/
namespace My
open PySem PySem.Spec PyProof.Rows L2
/-- two sources, a new source of them -/
def spSrc2 (K : PySem.W.Frag) (C : Addr) (pre : Rat → Rat → Prop) (fv fr : Rat → Rat → Rat → Rat → Rat) : Sp := fun vs H Q _ => ∃ (s t : Addr) (v r w u : Rat) (j : Nat), vs = [.ref s, .ref t] ∧ SrcAt K C H s v r ∧ SrcAt K C H t w u ∧ Sz j v ∧ Sz j r ∧ Sz j w ∧ Sz j u ∧ j ≤ 400 ∧ pre r u ∧
  ∀ (p : Addr) (H' : Hp), Same H H' → H p = none → SrcAt K C H' p (fv v r w u) (fr v r w u) → Q (.ref p) H'
abbrev spSrcAdd (K : PySem.W.Frag) (C : Addr) : Sp := spSrc2 K C (fun _ _ => True) (fun v _ w _ => v + w) (fun _ r _ u => r + u)
abbrev spSrcAnd (K : PySem.W.Frag) (C : Addr) : Sp := spSrc2 K C (fun r u => 0 < r + u) (fun v r w u => (v * u + w * r) / (r + u)) (fun _ r _ u => r * u / (r + u))
def spSrcEq (K : PySem.W.Frag) (C : Addr) : Sp := fun vs H Q _ => ∃ (s t : Addr) (v r w u : Rat), vs = [.ref s, .ref t] ∧ SrcAt K C H s v r ∧ SrcAt K C H t w u ∧ ∀ H', Same H H' → Q (.bl (decide (v = w) && decide (r = u))) H'
/-- so many times a source -/
def spMany (K : PySem.W.Frag) (C : Addr) : Sp := fun vs H Q _ => ∃ (s : Addr) (m : Int) (v r : Rat) (j : Nat), vs = [.ref s, .int m] ∧ SrcAt K C H s v r ∧ 0 ≤ m ∧ m.natAbs < 2 ^ j ∧ Sz j v ∧ Sz j r ∧ 0 < j ∧ j ≤ 400 ∧
  ∀ (p : Addr) (H' : Hp), Same H H' → H p = none → SrcAt K C H' p (v * (m : Rat)) r → Q (.ref p) H'
theorem add_nn {p q : Rat} (hp : 0 ≤ p) (hq : 0 ≤ q) : 0 ≤ p + q := Rat.add_nonneg hp hq
theorem num_zero {p : Rat} (h : 0 < p) : ¬ p.num = 0 := by
  have := pos_num h
  omega
section
variable {K : PySem.W.Frag} {H : Hp} {Q : VK} {C : Addr} {s t : Addr} {v r w u : Rat} {j : Nat}
theorem i_src2 {pre : Rat → Rat → Prop} {fv fr : Rat → Rat → Rat → Rat → Rat} (A1 : SrcAt K C H s v r) (A2 : SrcAt K C H t w u) (zv : Sz j v) (zr : Sz j r) (zw : Sz j w) (zu : Sz j u) (hj : j ≤ 400) (hp : pre r u)
    (k : ∀ (p : Addr) (H' : Hp), Same H H' → H p = none → SrcAt K C H' p (fv v r w u) (fr v r w u) → Q (.ref p) H') : rOwn C (spSrc2 K C pre fv fr) (.ref s) (.ref t) H Q := by
  obtain ⟨d1, a1, b1, e1, _⟩ := id A1
  obtain ⟨d2, a2, b2, e2, _⟩ := id A2
  exact ⟨_, _, _, _, _, _, rfl, rfl, e1, e2, _, _, _, _, _, _, j, rfl, A1, A2, zv, zr, zw, zu, hj, hp, k⟩
end
end My

/-! own layer, 8: operators of an own instance and an integer -/
namespace My
open PySem PySem.Spec PyProof.Rows L2
theorem lk {M : Model} {A : Around} {α β : Type} {t : Sem α} {r : α} {f : α → Sem β} {Q : β → Shared → Prop} {E : Value → Shared → Prop} {s : Shared} (hl : PySem.W.Looks M s.heap t r) (h : wpAny M A (f r) Q E s) : wpAny M A (t >>= f) Q E s := wpAny_bind (hl.here h)
theorem lkp {M : Model} {A : Around} {α β : Type} {t : Sem α} {r : α} {f : α → Sem β} {Q : β → Shared → Prop} {E : Value → Shared → Prop} {s : Shared} (hl : t = pure r) (h : wpAny M A (f r) Q E s) : wpAny M A (t >>= f) Q E s := lk (.of_pure hl) h
/-- x op i of an own instance and an integer; i op x, reflected -/
def rOwnI (C : Addr) (sp : Sp) : R2 := fun x y H Q => ∃ (i : Int) (a dx : Addr) (fs : List (Str × V)), x = .ref a ∧ y = .int i ∧ H a = some (.ins C dx fs) ∧ sp [x, y] H Q E0
def rOwnR (C : Addr) (sp : Sp) : R2 := fun x y H Q => ∃ (i : Int) (a dx : Addr) (fs : List (Str × V)), x = .int i ∧ y = .ref a ∧ H a = some (.ins C dx fs) ∧ sp [y, x] H Q E0
/-- what is asked of a class that is multiplied with integers -/
structure MulI (K : PySem.W.Frag) (C : Addr) : Prop where
  m : ∃ g, PySem.W.findIn K (.ref C) "__mul__" = some (some (.ref g))
  r : ∃ g, PySem.W.findIn K (.ref C) "__rmul__" = some (some (.ref g))
  fo : ∃ x, PySem.W.findIn K (.type "int") "__mul__" = some x
  ro : ∃ x, PySem.W.findIn K (.type "int") "__rmul__" = some x
  s1 : PySem.W.subIn K (.type "int") (.ref C) = some false
  s2 : PySem.W.subIn K (.ref C) (.type "int") = some false
section
variable {X : Cx} {CX : CXT} {k : Nat} {m qual : Str} {st : Stmt} {sp : Sp} {C : Addr}
theorem op_ownI (g : GOp X.K C "__mul__" qual st) (F : FnAt X.prog X.w X.K X.mg X.base CX k (He.ma X.K C "__mul__") ["self", "other"] sp) (hr : Room k X.A) (hc : PySem.W.selfFirst X.K C = true) (y : MulI X.K C)
    (hx : Passes CX X E0 := by first | exact pass0 | exact passL) : OpR X (binaryOp .Mult) (rOwnI C sp) := by
  intro pins s σ H x y' v u Q I rx ry h
  obtain ⟨i, a, dx, fs, rfl, rfl, ha, hsp⟩ := h
  cases rx
  obtain ⟨tk, rfl⟩ := ry
  obtain ⟨mA, J, _⟩ := ins_get I.hok ha
  obtain ⟨od, J, _⟩ := J.look
  obtain ⟨mm, hF⟩ := I.fr
  obtain ⟨g1, y1⟩ := y.r
  obtain ⟨x1, y2⟩ := y.fo
  obtain ⟨x2, y3⟩ := y.ro
  refine PySem.W.ksp_binT (T := "int") hF I.ok.mod.kin J rfl hc g.at_ g.fn y1 (.inr ⟨g1, rfl⟩) y2 y3 y.s1 ?_
  exact thn (run_fn (vs := [.ref a, .int i]) F hr g.b .nil hx I (.cons rfl (.cons ⟨tk, rfl⟩ .nil)) hsp) fun r s' q => back_of q
theorem op_ownR (g : GOp X.K C "__rmul__" qual st) (F : FnAt X.prog X.w X.K X.mg X.base CX k (He.ma X.K C "__rmul__") ["self", "other"] sp) (hr : Room k X.A) (hc : PySem.W.selfFirst X.K C = true) (y : MulI X.K C)
    (hx : Passes CX X E0 := by first | exact pass0 | exact passL) : OpR X (binaryOp .Mult) (rOwnR C sp) := by
  intro pins s σ H x y' v u Q I rx ry h
  obtain ⟨i, a, dx, fs, rfl, rfl, ha, hsp⟩ := h
  obtain ⟨tk, rfl⟩ := rx
  cases ry
  obtain ⟨mA, J, _⟩ := ins_get I.hok ha
  obtain ⟨od, J, _⟩ := J.look
  obtain ⟨mm, hF⟩ := I.fr
  have hK : X.K.In s.heap := fun b o e => hF.keep b o (I.ok.mod.kin b o e)
  obtain ⟨g1, y1⟩ := y.m
  obtain ⟨cd, rest, hcl, hmro⟩ := PySem.W.ksp_first hc
  unfold binaryOp
  refine wpAny_holding ?_
  refine wpAny_bind ?_
  unfold binaryOp1
  refine lkp (r := .type "int") rfl ?_
  refine lk J.type ?_
  refine lkp PyProof.Rows.fills_int_mul ?_
  have e : (Value.type "int" == Value.ref C) = false := rfl
  simp only [e]
  refine lk (PySem.W.fills_K hK hcl hmro y1) ?_
  rw [if_pos (show (true && true) = true from rfl)]
  refine lk (PySem.W.looks_subIn hK y.s2) ?_
  rw [if_neg (show ¬ (false = true) from Bool.false_ne_true)]
  rw [if_pos (show (true && true && !false) = true from rfl)]
  refine lkp (r := false) rfl ?_
  rw [if_neg (show ¬ (false = true) from Bool.false_ne_true)]
  rw [if_pos (show True from trivial)]
  refine wpAny_bind ?_
  unfold tryMethod
  refine wpAny_bind ?_
  refine wpAny_callSpecial?_slot (T := "int") rfl PyProof.Rows.slot_int_mul ?_
  refine wpAny_call_entry (b := Builtin.«int.__mul__») PyProof.Rows.slot_int_mul rfl PyProof.Rows.entry_int_mul ?_
  · unfold Builtin.«int.__mul__» Builtin.Int.intBinary
    refine lkp (r := (Value.int i tk, [Value.ref a])) rfl ?_
    refine lkp (r := i) rfl ?_
    have hl : PySem.W.Looks (model X.prog X.w) s.heap (asInt? (Value.ref a)) none := .andThen (.ld J.at_) .now
    refine lk hl ?_
    refine (PySem.W.Looks.tag .now).here ⟨_, rfl, ?_⟩
    refine (PySem.W.Looks.now (a := (none : Option Value))).here ?_
    show wpAny _ _ (if false = true then _ else _) _ _ _
    rw [if_neg (show ¬ (false = true) from Bool.false_ne_true)]
    rw [if_pos (show (true && !false) = true from rfl)]
    refine wpAny_bind ?_
    refine thn (PySem.W.ksp_try hK J g.at_ g.fn (thn (run_fn (vs := [.ref a, .int i]) F hr g.b .nil hx I (.cons rfl (.cons ⟨tk, rfl⟩ .nil)) hsp) fun r s' q => back_of q)) fun r s' hq => ?_
    obtain ⟨v, rfl, q⟩ := hq
    refine (PySem.W.Looks.tag .now).here ?_
    exact PySem.W.Looks.now.here q
end
end My

/-! own layer, 9: != by an own == -/
namespace My
open PySem PySem.Spec PyProof.Rows L2
theorem ns_at {K : PySem.W.Frag} {h : Heap} {N : Addr} {x : Str} {r : Option Value} (hK : K.In h) (e : PySem.W.nsIn K N x = some r) : h.nsMap N x = r := by
  unfold PySem.W.nsIn at e
  split at e
  · rename_i oc od es ep sl hl
    have g := hK _ _ hl
    unfold Heap.nsMap
    rw [g]
    show nsFind es x = r
    unfold nsFind findBy
    rw [← Array.find?_toList]
    split at e
    · rename_i q hq
      rw [hq]
      exact Option.some.inj e
    · rename_i hq
      rw [hq]
      split at e
      · cases e
      · exact Option.some.inj e
  · cases e
/-- what != asks of a class with an own __eq__ and no __ne__ -/
def neB (K : PySem.W.Frag) (C : Addr) : Bool := match K.lookup C with
  | some ⟨.type "type", _, .cls cd, sl⟩ => match cd.mro, sl.toList with
    | [.ref C', .type o], [_, _, _, _, some (.builtin _), _] => C' == C && (o == "object" && (!cd.hasDel && (PySem.W.nsOkIn K cd.ns && (He.eqO (PySem.W.nsIn K cd.ns "__eq__") (some (some (.ref (He.ma K C "__eq__")))) && He.eqO (PySem.W.nsIn K cd.ns "__ne__") (some none)))))
    | _, _ => false
  | _ => false
theorem neB_ok {K : PySem.W.Frag} {h : Heap} {C x : Addr} {ox of : Obj} (hK : K.In h) (nb : neB K C = true) (hf : h.get? (He.ma K C "__eq__") = some of) (hc : of.cls = .type "function") (hx : h.get? x = some ox) (hxc : ox.cls = .ref C) : h.OwnEqNoNe x C (He.ma K C "__eq__") "object" [.type "object"] := by
  unfold neB at nb
  split at nb
  · rename_i dd cd sl hl
    split at nb
    · rename_i C' o k0 k1 k2 k3 nw k5 hm hs
      obtain ⟨e1, nb⟩ := He.ba nb
      obtain ⟨e2, nb⟩ := He.ba nb
      obtain ⟨e3, nb⟩ := He.ba nb
      obtain ⟨e4, nb⟩ := He.ba nb
      obtain ⟨e5, e6⟩ := He.ba nb
      have e1 := eq_of_beq e1
      have e2 := eq_of_beq e2
      subst e1 e2
      have hsl : sl = #[k0, k1, k2, k3, some (.builtin nw), k5] := by
        rw [← Array.toArray_toList (xs := sl), hs]
      have g := hK _ _ hl
      rw [hsl] at g
      obtain ⟨nm, bs, mro, ns, q, hd, sn, sub, ab, col, del⟩ := cd
      simp only at hm e3 e4 e5 e6 g
      subst hm
      have e3 : del = false := by
        cases del
        · rfl
        · cases e3
      subst e3
      exact ⟨ox, of, nm, q, ns, bs, hd, sn, sub, ab, col, dd, k0, k1, k2, k3, k5, nw, h.nsMap ns, _, hx, hxc, g, Heap.Ns.of_isNs (PySem.W.isNs_of_in hK e4), ns_at hK (He.eqO_ok e5), hf, hc, PySem.F.cmp_object.mro, PySem.F.cmp_object.eq.lookup, ns_at hK (He.eqO_ok e6)⟩
    · cases nb
  · cases nb
/-- the same place, one row deeper -/
abbrev in1 (X : Cx) : Cx := { X with A := X.A.in1 }
section
variable {X : Cx} {CX : CXT} {k : Nat} {m qual : Str} {st : Stmt} {sp : Sp} {C : Addr}
theorem inv_up {pins : List (Addr × Obj)} {σ : L2.St} {H : Hp} {s : Shared} (I : L2.Inv X pins σ H s) : L2.Inv (in1 X) pins σ H s :=
  ⟨⟨I.ok.mod, I.ok.kind, I.ok.glob, I.ok.blt, I.ok.above, I.ok.inj, I.ok.has, I.ok.cab, I.ok.hd, I.ok.frames, I.ok.stk, I.ok.exf, I.ok.bs, I.ok.bsz, I.ok.noex, I.ok.exfs, I.ok.funs, I.ok.frf⟩, I.os, I.bare, I.base, I.loc, I.cell, I.free, I.freeC, I.pin, I.hok, I.len⟩
theorem inv_dn {pins : List (Addr × Obj)} {σ : L2.St} {H : Hp} {s : Shared} (I : L2.Inv (in1 X) pins σ H s) : L2.Inv X pins σ H s :=
  ⟨⟨I.ok.mod, I.ok.kind, I.ok.glob, I.ok.blt, I.ok.above, I.ok.inj, I.ok.has, I.ok.cab, I.ok.hd, I.ok.frames, I.ok.stk, I.ok.exf, I.ok.bs, I.ok.bsz, I.ok.noex, I.ok.exfs, I.ok.funs, I.ok.frf⟩, I.os, I.bare, I.base, I.loc, I.cell, I.free, I.freeC, I.pin, I.hok, I.len⟩
/-- x != y of two instances of one class: not its own == -/
def rOwnN (C : Addr) (sp : Sp) : R2 := fun x y H Q => ∃ a b dx dy fs gs, x = .ref a ∧ y = .ref b ∧ H a = some (.ins C dx fs) ∧ H b = some (.ins C dy gs) ∧ sp [x, y] H (fun v H' => ∃ k, v = .bl k ∧ Q (.bl (!k)) H') E0
theorem ne_own (nb : neB X.K C = true) (g : GOp X.K C "__eq__" qual st) (F : FnAt X.prog X.w X.K X.mg X.base CX k (He.ma X.K C "__eq__") ["self", "other"] sp) (hr : Room (k + 1) X.A)
    (hx : Passes CX X E0 := by first | exact pass0 | exact passL) : OpR X (compareOp .NotEq) (rOwnN C sp) := by
  intro pins s σ H x y v u Q I rx ry h
  obtain ⟨a, b, dx, dy, fs, gs, rfl, rfl, ha, hb, hsp⟩ := h
  cases rx
  cases ry
  obtain ⟨mA, J, _⟩ := ins_get I.hok ha
  obtain ⟨mB, J', _⟩ := ins_get I.hok hb
  obtain ⟨od, J, _⟩ := J.look
  obtain ⟨od', J', _⟩ := J'.look
  obtain ⟨mm, hF⟩ := I.fr
  have hK : X.K.In s.heap := fun b o e => hF.keep b o (I.ok.mod.kin b o e)
  have hu : X.A.units + 1 < cLine := by have := hr.un; omega
  obtain ⟨of, hf, hc⟩ : ∃ of, s.heap.get? (He.ma X.K C "__eq__") = some of ∧ of.cls = .type "function" := by
    have h := g.fn
    unfold PySem.W.isFn at h
    have h := eq_of_beq h
    obtain ⟨oc, od, kV, doc, pm, an, cdv, ct, osl, e, hl, hcd⟩ := g.f.ex
    have h : Option.map (fun x => x.cls) (List.lookup (He.ma X.K C "__eq__") X.K) = some (.type "function") := h
    rw [hl] at h
    exact ⟨_, hK _ _ hl, Option.some.inj h⟩
  refine compareOp_ne_ownEq (h := s.heap) PySem.F.cmp_object (neB_ok hK nb hf hc J.at_ J.cls) J'.at_ J'.cls hu ?_
  have hx1 : Passes CX (in1 X) E0 := fun pins σ H s e s' I' c => hx pins σ H s e s' (inv_dn I') c
  refine thn (run_fn (X := in1 X) (vs := [.ref a, .ref b]) F hr.in1 g.b .nil hx1 (inv_up I) (.cons rfl (.cons rfl .nil)) hsp) fun r s' q => ?_
  obtain ⟨v, H', I', rv, ⟨k, rfl, q⟩⟩ := q
  exact ⟨k, rv, ⟨.bl (!k), H', inv_dn I', rfl, q⟩⟩
end
def refB : Option (Option Value) → Bool
  | some (some (.ref _)) => true
  | _ => false
theorem refB_ok {o : Option (Option Value)} (h : refB o = true) : ∃ g, o = some (some (.ref g)) := by
  unfold refB at h
  split at h
  · exact ⟨_, rfl⟩
  · cases h
def mulB (K : PySem.W.Frag) (x : Str) : Bool := refB (PySem.W.findIn K (.ref (He.ga K x)) "__mul__") && (refB (PySem.W.findIn K (.ref (He.ga K x)) "__rmul__") && ((PySem.W.findIn K (.type "int") "__mul__").isSome && ((PySem.W.findIn K (.type "int") "__rmul__").isSome &&
  (decide (PySem.W.subIn K (.type "int") (.ref (He.ga K x)) = some false) && decide (PySem.W.subIn K (.ref (He.ga K x)) (.type "int") = some false)))))
theorem mulB_ok {K : PySem.W.Frag} {x : Str} (h : mulB K x = true) : MulI K (He.ga K x) := by
  obtain ⟨h1, h⟩ := He.ba h
  obtain ⟨h2, h⟩ := He.ba h
  obtain ⟨h3, h⟩ := He.ba h
  obtain ⟨h4, h⟩ := He.ba h
  obtain ⟨h5, h6⟩ := He.ba h
  exact ⟨refB_ok h1, refB_ok h2, Option.isSome_iff_exists.mp h3, Option.isSome_iff_exists.mp h4, of_decide_eq_true h5, of_decide_eq_true h6⟩
section
variable {K : PySem.W.Frag} {H : Hp} {Q : VK} {C : Addr} {s t : Addr} {v r w u : Rat} {j : Nat}
theorem i_srcNe (A1 : SrcAt K C H s v r) (A2 : SrcAt K C H t w u) (k : ∀ H', Same H H' → Q (.bl (!(decide (v = w) && decide (r = u)))) H') : rOwnN C (spSrcEq K C) (.ref s) (.ref t) H Q := by
  obtain ⟨d1, a1, b1, e1, _⟩ := id A1
  obtain ⟨d2, a2, b2, e2, _⟩ := id A2
  exact ⟨_, _, _, _, _, _, rfl, rfl, e1, e2, _, _, _, _, _, _, rfl, A1, A2, fun H' S => ⟨_, rfl, k H' S⟩⟩
theorem i_srcEq (A1 : SrcAt K C H s v r) (A2 : SrcAt K C H t w u) (k : ∀ H', Same H H' → Q (.bl (decide (v = w) && decide (r = u))) H') : rOwn C (spSrcEq K C) (.ref s) (.ref t) H Q := by
  obtain ⟨d1, a1, b1, e1, _⟩ := id A1
  obtain ⟨d2, a2, b2, e2, _⟩ := id A2
  exact ⟨_, _, _, _, _, _, rfl, rfl, e1, e2, _, _, _, _, _, _, rfl, A1, A2, k⟩
theorem i_manyI {m : Int} (A1 : SrcAt K C H s v r) (m0 : 0 ≤ m) (mz : m.natAbs < 2 ^ j) (zv : Sz j v) (zr : Sz j r) (j0 : 0 < j) (hj : j ≤ 400) (k : ∀ (p : Addr) (H' : Hp), Same H H' → H p = none → SrcAt K C H' p (v * (m : Rat)) r → Q (.ref p) H') : rOwnI C (spMany K C) (.ref s) (.int m) H Q := by
  obtain ⟨d1, a1, b1, e1, _⟩ := id A1
  exact ⟨m, _, _, _, rfl, rfl, e1, _, m, v, r, j, rfl, A1, m0, mz, zv, zr, j0, hj, k⟩
theorem i_manyR {m : Int} (A1 : SrcAt K C H s v r) (m0 : 0 ≤ m) (mz : m.natAbs < 2 ^ j) (zv : Sz j v) (zr : Sz j r) (j0 : 0 < j) (hj : j ≤ 400) (k : ∀ (p : Addr) (H' : Hp), Same H H' → H p = none → SrcAt K C H' p (v * (m : Rat)) r → Q (.ref p) H') : rOwnR C (spMany K C) (.int m) (.ref s) H Q := by
  obtain ⟨d1, a1, b1, e1, _⟩ := id A1
  exact ⟨m, _, _, _, rfl, rfl, e1, _, m, v, r, j, rfl, A1, m0, mz, zv, zr, j0, hj, k⟩
end
end My

/-! own layer, 10: defs that write values out (no guard stands when they are called) -/
namespace My
open PySem PySem.Spec PyProof.Rows L2
structure FnG (P : Program) (w : World) (K : PySem.W.Frag) (mg : Str → Option Value) (base : Heap) (CX : CXT) (k : Nat) (f : Addr) (fd : FuncData) (ps : List Str) (sp : Sp) : Prop where
  len : ∀ vs H Q E, sp vs H Q E → vs.length = ps.length
  run : ∀ A outer s H args us vs Q E, A.guards = some [] → Room k A → Env0 P w K mg base A outer s H → BindsTo s fd args (ps.zip us) → Vals vs us → sp vs H Q E →
    codeAny (model P w) A (Code.call (.ref f) args) (CR CX outer P w H s Q E) s
section
variable {CX : CXT} {P : Program} {w : World} {K : PySem.W.Frag} {mg : Str → Option Value} {base : Heap} {k : Nat} {f : Addr} {name qual : Str} {params : Arguments} {body : List Stmt} {scope : Scope} {dV kV doc pm cdv ct oc : Value} {an od : Option Addr} {osl : Array (Option Value)} {N ps : List Str} {sp : Sp}
theorem fn_ofG (lk : K.lookup f = some ⟨oc, od, .func (PySem.W.fnOf name qual params body scope dV kV doc pm an cdv ct), osl⟩) (hcd : PySem.W.codeIn K cdv qual = true) (S : FnScope N ps scope) (len : ∀ vs H Q E, sp vs H Q E → vs.length = ps.length)
    (hbody : ∀ (A : Around) (outer : List Env) (s : Shared) (H : Hp) (vs : List V) (Q : VK) (E : XK), A.guards = some [] → Room k (A.deeper (envOfC qual scope s.heap.objs.size f cdv)) → sp vs H Q E →
      ∃ t, PSs (cxOf CX P w K mg base N qual scope f cdv A outer s H E) body t ∧ t { nx := fun _ H' => Q .non H', rt := Q } (L2.start N vs) H) :
    FnG P w K mg base CX (k + 1) f (PySem.W.fnOf name qual params body scope dV kV doc pm an cdv ct) ps sp := by
  refine ⟨len, fun A outer s H args us vs Q E hgd hr e0 hb r hsp => ?_⟩
  have hl := len vs H Q E hsp
  have KX : K.In s.heap := fun b o e => (e0.bs b o (e0.mod.kin b o e)).1
  have lim := e0.mod.nolimit.keeps fun b o e => (e0.bs b o e).1
  refine codeAny_call_function hr.depth (KX f _ lk) rfl S.co S.gen rfl (PySem.W.codeRec_of KX hcd) ?_
  refine hb _ _ _ _ ?_
  refine wpAny_newFunctionEnv_cells S.kind ?_ ?_
  · rintro ⟨n, v⟩ hy
    rcases S.par n (List.of_mem_zip hy).1 with q | q
    · exact .inl q
    · exact .inr ⟨q, PySem.W.cellsFrom_some scope.names (s.heap.objs.size + 1) [] (.inl q)⟩
  · intro env he s1 x
    subst he
    refine ⟨lim.keeps x.toInCall.keep, codeAny_func ?_⟩
    obtain ⟨t, ht, hq⟩ := hbody A outer s H vs Q E hgd (hr.deeper _) hsp
    have I := inv_start (CX := CX) (E := E) S hr.hd e0 hl r x
    refine wpAny_mono (ht.run [] s1 (L2.start N vs) H _ I hq) (fun fl s' hs => ?_) fun e s' hs => hs
    cases fl with
    | ret u =>
      obtain ⟨v, σ', H', J, rv, q⟩ := hs
      exact ⟨v, H', J.os, J.bare, J.base, J.hok, rv, q⟩
    | next =>
      obtain ⟨σ', H', J, q⟩ := hs
      exact ⟨.non, H', J.os, J.bare, J.base, J.hok, rfl, q⟩
    | brk =>
      obtain ⟨_, _, _, q⟩ := hs
      exact q.elim
    | cont =>
      obtain ⟨_, _, _, q⟩ := hs
      exact q.elim
end
section
variable {X : Cx} {CX : CXT} {k : Nat} {f : Addr} {fd : FuncData} {ps : List Str} {sp : Sp} {dvs : List V} {ds : List Value} {E : XK} {pins : List (Addr × Obj)} {σ : L2.St} {H : Hp} {s : Shared} {Q : VK} {us : List Value} {vs : List V}
theorem run_fnG (F : FnG X.prog X.w X.K X.mg X.base CX k f fd ps sp) (hgd : X.A.guards = some []) (hr : Room k X.A) (hb : L2.Binds X.K fd ps ds) (hd : Vals dvs ds) (hx : Passes CX X E) (I : L2.Inv X pins σ H s) (r : Vals vs us) (h : sp (vs ++ dvs) H Q E) :
    wpAny (model X.prog X.w) X.A (call (.ref f) us) (EP X pins σ Q) X.xe s := by
  have r2 := Vals.append r hd
  have hl : (us ++ ds).length = ps.length := by
    rw [← Vals.length r2]
    exact F.len _ _ _ _ h
  refine wpAny_call (codeAny_mono (F.run X.A X.stack s H ⟨us, []⟩ (us ++ ds) (vs ++ dvs) Q E hgd hr I.env0 (hb s us I.kIn hl) r2 h) fun r s' hq => ?_)
  cases r with
  | error e => exact hx pins σ H s e s' I hq
  | ok fl =>
    cases fl with
    | ret v => exact I.after hq
    | _ => exact False.elim hq
variable {x m qual : Str} {st : Stmt} {p pos : Pos} {e : Expr} {es : List Expr} {t : TA}
abbrev FnGAt (P : Program) (w : World) (K : PySem.W.Frag) (mg : Str → Option Value) (base : Heap) (CX : CXT) (k : Nat) (a : Addr) (ps : List Str) (sp : Sp) : Prop := FnG P w K mg base CX k a (fdOf K a) ps sp
theorem pe_fnG (g : GFn X.K X.mg x st ps) (F : FnGAt X.prog X.w X.K X.mg X.base CX k (He.ga X.K x) ps sp) (hgd : X.A.guards = some []) (hr : Room k X.A) (ha : PA X (e :: es) t) (hx : Passes CX X E := by first | exact pass0 | exact passL) (hg : Gl X x := by rfl)
    (hdb : (x == ("__debug__" : Str)) = false := by decide) (he : starEach (e :: es) X.env = (false, eval e X.env) :: starEach es X.env := by rfl) (hpl : (backTo pos (starEach es X.env)).any (·.1) = false := by rfl) :
    PE X (.Call (.Name x p) (e :: es) [] pos) (tCall sp [] E t) := by
  refine ⟨fun pins s σ H Q I h => ?_⟩
  refine wpAny_Call_Name_kw ?_
  refine ld_glob I hg g.m ?_ hdb
  refine PySem.W.callWith_K I.ok.mod.kin g.f.kp (thn (ha.run pos pins s σ H (fun vs H1 => sp (vs ++ []) H1 Q E) I h) ?_) he hpl
  rintro us s1 ⟨vs, H1, I1, r, q⟩
  exact ⟨I1.kIn, run_fnG F hgd hr g.b .nil hx I1 r q⟩
/-- repr of data -/
def rReprD (K : PySem.W.Frag) : List V → Hp → VK → Prop := fun xs H Q => ∃ (a : Addr) (d : PyData), xs = [.ref a] ∧ Dp K H (.ref a) d ∧ d.showable = true ∧ d.hasDict = false ∧ d.depth < 100 ∧ d.shown.length ≤ sizeLine ∧ Q (.str d.shown) H
theorem cr_reprD (hgd : X.A.guards = some []) (hr : Room k X.A) : CallR X (.builtin "repr") (rReprD X.K) := by
  intro pins s σ H xs us Q I r h
  obtain ⟨a, d, rfl, hd, h1, h2, h3, h4, q⟩ := h
  cases r with
  | cons r1 rr =>
    cases rr
    cases r1
    obtain ⟨as, R⟩ := Dp.reads I d _ _ hd rfl
    have hu := hr.un
    have hz : X.A.units + (d.depth + 1) < cLine := Nat.lt_of_le_of_lt (by omega : X.A.units + (d.depth + 1) ≤ X.A.units + 16 * k + 200) hu
    have hdn : d.hasDict = true → ¬ sysModules ∈ as := fun z => by rw [h2] at z; cases z
    refine repr_of_reads' R h1 hdn hgd hz (fun _ _ e => e) (fun h' u tk hk => ?_) h4
    exact ⟨.str d.shown, H, I.kept hk, ⟨u, rfl⟩, q⟩
end
section
variable {P : Program} {w : World} {K : PySem.W.Frag} {mg mb : Str → Option Value} {k : Nat} {fa a : Addr} {fd : FuncData} {x : Str} {sp : Sp} {s₁ : Shared} {vs : List Value} {ns : List Int}
/-- the list that a law is asked with -/
abbrev scriptO (vs : List Value) : Obj := ⟨.type "list", none, .seq vs.toArray 0, #[]⟩
theorem callG_core (KX : K.In s₁.heap) (hns : s₁.heap.Ns mainGlobals mg) (hb : s₁.heap.Ns builtinsNs mb) (hbb : ∀ x : Str, x ≠ "__name__" → mb x = bootBuiltins x) (hlim : s₁.heap.NoLimit) (hg : s₁.gens = #[]) (ha : s₁.heap.get? a = some (scriptO vs)) (hr : Room k callerA)
    (F : ∀ base : Heap, K.In base → base.Ns mainGlobals mg → FnG P w K mg base CX0 k fa fd [x] sp) (hbind : ∀ (s : Shared) (u : Value), BindsTo s fd ⟨[u], []⟩ [(x, u)]) {H : Hp} (hO : Only H) (hq : sp [.ref a] H (fun v _ => v = .bl true) E0) (hok : HOk P w H s₁.heap) (hA : ∀ b, H b ≠ none → b = a) (hK : H a ≠ none → K.lookup a = none) :
    codeAny (model P w) callerA (Code.call (.ref fa) ⟨[.ref a], []⟩) (fun r s' => r = Except.ok (Flow.ret (.bool true)) ∧ OldK s₁.heap s'.heap ∧ s'.os = s₁.os ∧ AllBare s'.gens) s₁ := by
  have at_ : ∀ {b : Addr} {o : Obj}, s₁.heap.get? b = some o → H b = none → (hidT s₁.heap H).get? b = some o := fun e n => hidT_get e n
  have noA : ∀ {b : Addr} {o : Obj} {es : Array DictEntry} {ep : Nat}, s₁.heap.get? b = some o → o.data = .dict es ep → H b = none := by
    intro b o es ep e d
    cases h : H b with
    | none => rfl
    | some u =>
      obtain rfl := hA b (by rw [h]; intro z; cases z)
      rw [ha] at e
      cases e
      cases d
  have nsK : ∀ {b : Addr} {m : Str → Option Value}, s₁.heap.Ns b m → (hidT s₁.heap H).Ns b m := by
    rintro b m ⟨o, es, ep, e, d, r⟩
    exact ⟨o, es, ep, at_ e (noA e d), d, r⟩
  have hKb : K.In (hidT s₁.heap H) := by
    intro b o e
    refine at_ (KX b o e) ?_
    cases h : H b with
    | none => rfl
    | some u =>
      have hn : H b ≠ none := by rw [h]; intro z; cases z
      obtain rfl := hA b hn
      rw [hK hn] at e
      cases e
  have hM : L2.Mod K mg (hidT s₁.heap H) := ⟨hKb, nsK hns, ⟨mb, nsK hb, hbb⟩, by obtain ⟨mc, h1, h2⟩ := hlim; exact ⟨mc, nsK h1, h2⟩⟩
  have e0 : Env0 P w K mg (hidT s₁.heap H) callerA [] s₁ H := ⟨rfl, hM, fun b o e => of_hidT e, Nat.le_of_eq (hidT_size _ _), trivial, (fun b z => by cases z), hok, AllBare.of_eq hg⟩
  refine codeAny_mono ((F _ hKb (nsK hns)).run callerA [] s₁ H ⟨[.ref a], []⟩ [.ref a] [.ref a] (fun v _ => v = .bl true) E0 rfl hr e0 (hbind s₁ (.ref a)) (.cons rfl .nil) hq) fun r s' h => ?_
  cases r with
  | error e => exact False.elim h
  | ok fl =>
    cases fl with
    | ret u =>
      obtain ⟨v, H', os, bare, un, hok', r', q⟩ := h
      subst q
      cases r'
      refine ⟨rfl, OldK.of_keep fun b o e => ?_, os, bare⟩
      cases h : H b with
      | none => exact un.keep b o e h (fun z => by cases z) (fun z => by cases z)
      | some u =>
        rcases hO b with z | ⟨ob, xs, z⟩
        · rw [h] at z
          cases z
        · have h1 := (hok b _ z).1
          have h2 := (hok' b _ (un.frzs _ _ _ z)).1
          rw [e] at h1
          cases h1
          exact h2
    | _ => exact False.elim h
theorem law_callG (KX : K.In s₁.heap) (hns : s₁.heap.Ns mainGlobals mg) (hb : s₁.heap.Ns builtinsNs mb) (hbb : ∀ x : Str, x ≠ "__name__" → mb x = bootBuiltins x) (hlim : s₁.heap.NoLimit) (hg : s₁.gens = #[]) (ha : s₁.heap.get? a = some (scriptO vs)) (hr : Room k callerA)
    (F : ∀ base : Heap, K.In base → base.Ns mainGlobals mg → FnG P w K mg base CX0 k fa fd [x] sp) (hbind : ∀ (s : Shared) (u : Value), BindsTo s fd ⟨[u], []⟩ [(x, u)]) (hi : IntsAre vs ns) (hl : ns.length ≤ sizeLine) (hsp : ∀ H, Only H → SqL K H a (ns.map V.int) → sp [.ref a] H (fun v _ => v = .bl true) E0) :
    codeAny (model P w) callerA (Code.call (.ref fa) ⟨[.ref a], []⟩) (fun r s' => r = Except.ok (Flow.ret (.bool true)) ∧ OldK s₁.heap s'.heap ∧ s'.os = s₁.os ∧ AllBare s'.gens) s₁ := by
  have rv := vals_ints hi
  have lenV := IntsAre.length hi
  cases h : K.lookup a with
  | none =>
    have hH : ∀ b, (fun b => if b = a then some (HO.frz (scriptO vs) (.lst (ns.map V.int))) else none : Hp) b = none ∨ b = a := by
      intro b
      by_cases hb : b = a
      · exact .inr hb
      · exact .inl (if_neg hb)
    have hO : Only (fun b => if b = a then some (HO.frz (scriptO vs) (.lst (ns.map V.int))) else none) := by
      intro b
      rcases hH b with z | z
      · exact .inl z
      · exact .inr ⟨_, _, if_pos z⟩
    refine callG_core KX hns hb hbb hlim hg ha hr F hbind hO (hsp _ hO (.inl (.inr ⟨_, if_pos rfl⟩))) ?_ ?_ (fun _ => h)
    · intro b u z
      rcases hH b with e | e
      · rw [e] at z
        cases z
      · subst e
        have z : some (HO.frz (scriptO vs) (.lst (ns.map V.int))) = some u := (if_pos rfl).symm.trans z
        cases z
        exact ⟨ha, by rw [List.length_map]; exact hl, vs, 0, rv, ha⟩
    · intro b z
      rcases hH b with e | e
      · exact absurd e z
      · exact e
  | some o =>
    have e := KX a o h
    rw [ha] at e
    cases e
    have hO : Only (fun _ => none) := fun _ => .inl rfl
    refine callG_core KX hns hb hbb hlim hg ha hr F hbind hO (hsp _ hO (.inr ⟨_, vs.toArray, 0, h, rfl, rfl, rfl, ?_, rv⟩)) (fun b u z => by cases z) (fun b z => absurd rfl z) (fun z => absurd rfl z)
    rw [List.size_toArray, lenV]
    exact hl
end
theorem walk_ofG {l : PySem.W.OpenLaw} {n k : Nat} {q : Program} {loose : List Str} {XP : (Str → Option Value) → Heap → Prop} {YP : World → Heap → Prop} {d : DefRec} {x : Str} (hn : l.most = some n) (hn2 : n ≤ sizeLine) (hdf : d.params.defaults = []) (hr : Room k callerA)
    (F : ∀ (w : World) (mg : Str → Option Value) (fa : Addr) (h : Heap), YP w h → h.Ns mainGlobals mg → mg d.name = some (.ref fa) → ∃ (K : PySem.W.Frag) (fd : FuncData) (sp : Sp), K.In h ∧ (∀ (s : Shared) (u : Value), BindsTo s fd ⟨[u], []⟩ [(x, u)]) ∧
      (∀ (H : Hp) (a : Addr) (ns : List Int), ns.length ≤ n → Only H → SqL K H a (ns.map V.int) → sp [.ref a] H (fun v _ => v = .bl true) E0) ∧ ∀ base : Heap, K.In base → base.Ns mainGlobals mg → FnG l.prog w K mg base CX0 k fa fd [x] sp) :
    PySem.W.WalkO q loose XP YP l.row.toRowW d [] fun f vs => call f vs := by
  refine Att.attach_call hn hdf fun w s₀ s₁ mg mb fa o pm cd doc a vs ns G Y ho hd hcd hmg hobj hints hlen hg => ?_
  obtain ⟨K, fd, sp, KX, hb, hsp, hF⟩ := F w mg fa s₁.heap Y G.T.g hmg
  exact law_callG KX G.T.g G.T.b G.T.builtins G.T.nolimit hg hobj hr hF hb hints (Nat.le_trans hlen hn2) fun H hO hS => hsp H a ns hlen hO hS
theorem int_repr_le {i : Int} {k : Nat} (hk : 0 < k) (h : i.natAbs < 2 ^ k) : i.repr.length ≤ k + 1 := by
  cases i with
  | ofNat n => exact Nat.le_succ_of_le (nat_repr_length_le hk h)
  | negSucc n =>
    have h2 := nat_repr_length_le (n := n + 1) hk h
    show ("-" ++ Nat.repr (n + 1)).length ≤ k + 1
    rw [String.length_append]
    have e : ("-" : String).length = 1 := rfl
    omega
theorem shown2 (a b : Int) : (PyData.tuple [.int a, .int b]).shown = tupleText [Str.ofString a.repr, Str.ofString b.repr] := by
  simp [PyData.shown, PyData.shownAll]
theorem shown2_le {a b : Int} {k : Nat} (hk : 0 < k) (ha : a.natAbs < 2 ^ k) (hb : b.natAbs < 2 ^ k) : (PyData.tuple [.int a, .int b]).shown.length ≤ 2 * k + 9 := by
  rw [shown2]
  have h := tupleText_len_le [Str.ofString a.repr, Str.ofString b.repr]
  simp only [List.map, List.sum_cons, List.sum_nil, List.length, PySem.ofString_length] at h
  have h1 := int_repr_le hk ha
  have h2 := int_repr_le hk hb
  omega
theorem i_reprRat {K : PySem.W.Frag} {H : Hp} {Q : VK} {a : Addr} {p : Rat} {k : Nat} (hk : 0 < k) (hk2 : k ≤ 1900) (z : Sz k p) (ha : SqT K H a (rat p)) (h : Q (.str (PyData.tuple [.int p.num, .int p.den]).shown) H) : rReprD K [.ref a] H Q :=
  ⟨a, .tuple [.int p.num, .int p.den], rfl, .tup ha (.cons (.int _) (.cons (.int _) .nil)), by simp [PyData.showable, PyData.showableAll]; exact ⟨Nat.lt_of_lt_of_le (log_lt hk z.1) (by omega), Nat.lt_of_lt_of_le (log_lt hk z.2) (by omega)⟩, by simp [PyData.hasDict, PyData.hasDictAll], by simp [PyData.depth, PyData.depthAll], Nat.le_trans (shown2_le hk z.1 z.den) (Nat.le_trans (by omega : 2 * k + 9 ≤ 10000) (by decide +kernel)), h⟩
section
variable {P : Program} {w : World} {K : PySem.W.Frag} {mg : Str → Option Value} {base : Heap} {x qual : Str} {st : Stmt} {f : Addr} {fd : FuncData} {N ps : List Str} {k : Nat} {sp : Sp}
theorem fun_okG (F : Fun K x qual st f fd) (S : FnScope N ps (defScope st)) (len : ∀ vs H Q E, sp vs H Q E → vs.length = ps.length)
    (hb : ∀ (cdv : Value) (A : Around) (outer : List Env) (s : Shared) (H : Hp) (vs : List V) (Q : VK) (E : XK), A.guards = some [] → Room k (A.deeper (envOfC qual (defScope st) s.heap.objs.size f cdv)) → sp vs H Q E →
      ∃ t, PSs (cxOf CX0 P w K mg base N qual (defScope st) f cdv A outer s H E).nox (defBody st) t ∧ t { nx := fun _ H' => Q .non H', rt := Q } (L2.start N vs) H) : FnG P w K mg base CX0 (k + 1) f fd ps sp := by
  obtain ⟨oc, od, kV, doc, pm, an, cdv, ct, osl, e, hl, hc⟩ := F.ex
  subst e
  refine fn_ofG hl hc S len fun A outer s H vs Q E hg hr h => ?_
  obtain ⟨t, h1, h2⟩ := hb cdv A outer s H vs Q E hg hr h
  exact ⟨t, h1.nox, h2⟩
end
end My

/-! own layer: data in the heap: what keeps them, < of data, slices with a step, own in, [], len -/
namespace My
open PySem PySem.Spec PyProof.Rows L2
/-! ### frames -/
mutual
/-- no list, no dict in it -/
def noL : PyData → Bool
  | .list _ => false
  | .dict _ => false
  | .tuple ds => noLAll ds
  | _ => true
def noLAll : List PyData → Bool
  | [] => true
  | d :: ds => noL d && noLAll ds
end
section
variable {K : PySem.W.Frag} {H H' : Hp}
mutual
theorem dp_imp (hL : ∀ a xs, SqL K H a xs → SqL K H' a xs) (hT : ∀ a xs, SqT K H a xs → SqT K H' a xs) : ∀ (d : PyData) (v : V), Dp K H v d → Dp K H' v d
  | .none, _, h => by cases h; exact .non
  | .bool _, _, h => by cases h; exact .bl _
  | .int _, _, h => by cases h; exact .int _
  | .str _, _, h => by cases h; exact .str _
  | .list ds, _, h => by
    cases h with
    | lst h1 h2 => exact .lst (hL _ _ h1) (dpAll_imp hL hT ds _ h2)
  | .tuple ds, _, h => by
    cases h with
    | tup h1 h2 => exact .tup (hT _ _ h1) (dpAll_imp hL hT ds _ h2)
  | .dict _, _, h => by cases h
theorem dpAll_imp (hL : ∀ a xs, SqL K H a xs → SqL K H' a xs) (hT : ∀ a xs, SqT K H a xs → SqT K H' a xs) : ∀ (ds : List PyData) (vs : List V), DpAll K H vs ds → DpAll K H' vs ds
  | [], _, h => by cases h; exact .nil
  | d :: ds, _, h => by
    cases h with
    | cons h1 h2 => exact .cons (dp_imp hL hT d _ h1) (dpAll_imp hL hT ds _ h2)
end
mutual
theorem dp_noL (hT : ∀ a xs, SqT K H a xs → SqT K H' a xs) : ∀ (d : PyData) (v : V), noL d = true → Dp K H v d → Dp K H' v d
  | .none, _, _, h => by cases h; exact .non
  | .bool _, _, _, h => by cases h; exact .bl _
  | .int _, _, _, h => by cases h; exact .int _
  | .str _, _, _, h => by cases h; exact .str _
  | .list ds, _, n, h => by cases n
  | .tuple ds, _, n, h => by
    cases h with
    | tup h1 h2 => exact .tup (hT _ _ h1) (dpAll_noL hT ds _ n h2)
  | .dict _, _, _, h => by cases h
theorem dpAll_noL (hT : ∀ a xs, SqT K H a xs → SqT K H' a xs) : ∀ (ds : List PyData) (vs : List V), noLAll ds = true → DpAll K H vs ds → DpAll K H' vs ds
  | [], _, _, h => by cases h; exact .nil
  | d :: ds, _, n, h => by
    cases h with
    | cons h1 h2 =>
      have n := Bool.and_eq_true_iff.mp n
      exact .cons (dp_noL hT d _ n.1 h1) (dpAll_noL hT ds _ n.2 h2)
end
theorem _root_.L2.Dp.same {v : V} {d : PyData} (h : Dp K H v d) (S : Same H H') : Dp K H' v d := dp_imp (fun _ _ => S.seq) (fun _ _ => S.seqT) d v h
theorem _root_.L2.DpAll.same {vs : List V} {ds : List PyData} (h : DpAll K H vs ds) (S : Same H H') : DpAll K H' vs ds := dpAll_imp (fun _ _ => S.seq) (fun _ _ => S.seqT) ds vs h
/-- no tuple, locked or not -/
def Plain : HO → Prop
  | .tup _ => False
  | .frz _ (.tup _) => False
  | _ => True
/-- no list, locked or not -/
def NoList : HO → Prop
  | .lst _ => False
  | .frz _ (.lst _) => False
  | _ => True
theorem seqT_butP {p a : Addr} {o : HO} {xs : List V} (hp : H p = some o) (pl : Plain o) (B : But p H H') (h : SqT K H a xs) : SqT K H' a xs := by
  rcases h with (h | ⟨ob, h⟩) | h
  · exact .inl (.inl (B _ _ (fun z => by rw [z, hp] at h; cases h; exact pl) h))
  · exact .inl (.inr ⟨ob, B _ _ (fun z => by rw [z, hp] at h; cases h; exact pl) h⟩)
  · exact .inr h
theorem seqL_butP {p a : Addr} {o : HO} {xs : List V} (hp : H p = some o) (pl : Plain o) (nl : NoList o) (B : But p H H') (h : SqL K H a xs) : SqL K H' a xs := by
  rcases h with (h | ⟨ob, h⟩) | h
  · exact .inl (.inl (B _ _ (fun z => by rw [z, hp] at h; cases h; exact nl) h))
  · exact .inl (.inr ⟨ob, B _ _ (fun z => by rw [z, hp] at h; cases h; exact nl) h⟩)
  · exact .inr h
/-- data without lists: anything plain may change -/
theorem dp_butN {p : Addr} {o : HO} {v : V} {d : PyData} (hp : H p = some o) (pl : Plain o) (B : But p H H') (n : noL d = true) (h : Dp K H v d) : Dp K H' v d := dp_noL (fun _ _ => seqT_butP hp pl B) d v n h
theorem dpAll_butN {p : Addr} {o : HO} {vs : List V} {ds : List PyData} (hp : H p = some o) (pl : Plain o) (B : But p H H') (n : noLAll ds = true) (h : DpAll K H vs ds) : DpAll K H' vs ds := dpAll_noL (fun _ _ => seqT_butP hp pl B) ds vs n h
/-- any data: what is plain and no list may change -/
theorem dp_butD {p : Addr} {o : HO} {v : V} {d : PyData} (hp : H p = some o) (pl : Plain o) (nl : NoList o) (B : But p H H') (h : Dp K H v d) : Dp K H' v d := dp_imp (fun _ _ => seqL_butP hp pl nl B) (fun _ _ => seqT_butP hp pl B) d v h
/-- what is new may change -/
theorem Same.ext {p : Addr} {H0 : Hp} (S : Same H0 H) (hp : H0 p = none) (B : But p H H') : Same H0 H' := fun b o e => B b o (fun z => by rw [z, hp] at e; cases e) (S b o e)
theorem But.ext {p q : Addr} {H0 : Hp} (S : But q H0 H) (hp : H0 p = none) (B : But p H H') : But q H0 H' := fun b o n e => B b o (fun z => by rw [z, hp] at e; cases e) (S b o n e)
theorem But.same {p : Addr} {H0 : Hp} (B : But p H0 H) (S : Same H H') : But p H0 H' := fun b o n e => S b o (B b o n e)
theorem Same.butS {p : Addr} {H0 : Hp} (S : Same H0 H) (B : But p H H') : But p H0 H' := fun b o n e => B b o n (S b o e)
theorem But.same_of {p : Addr} (B : But p H H') (hp : H p = none) : Same H H' := fun b o e => B b o (fun z => by rw [z, hp] at e; cases e) e
theorem _root_.L2.Same.freshL {H0 : Hp} {p : Addr} (S : Same H0 H) (hp : H p = none) : H0 p = none := S.free hp
/-! ### shapes of data -/
theorem dpAll_len {vs : List V} : ∀ {ds : List PyData}, DpAll K H vs ds → vs.length = ds.length := by
  intro ds
  induction ds generalizing vs with
  | nil => intro h; cases h; rfl
  | cons d ds ih => intro h; cases h with | cons _ h2 => simp [ih h2]
theorem dpAll_snoc {vs : List V} {v : V} {d : PyData} : ∀ {ds : List PyData}, DpAll K H vs ds → Dp K H v d → DpAll K H (vs ++ [v]) (ds ++ [d]) := by
  intro ds
  induction ds generalizing vs with
  | nil => intro h h1; cases h; exact .cons h1 .nil
  | cons d ds ih => intro h h1; cases h with | cons h0 h2 => exact .cons h0 (ih h2 h1)
theorem dpAll_app {vs ws : List V} {es : List PyData} : ∀ {ds : List PyData}, DpAll K H vs ds → DpAll K H ws es → DpAll K H (vs ++ ws) (ds ++ es) := by
  intro ds
  induction ds generalizing vs with
  | nil => intro h h1; cases h; exact h1
  | cons d ds ih => intro h h1; cases h with | cons h0 h2 => exact .cons h0 (ih h2 h1)
theorem dpAll_get {vs : List V} {v : V} {i : Nat} : ∀ {ds : List PyData}, DpAll K H vs ds → vs[i]? = some v → ∃ d, ds[i]? = some d ∧ Dp K H v d := by
  intro ds
  induction ds generalizing vs i with
  | nil => intro h e; cases h; simp at e
  | cons d ds ih =>
    intro h e
    cases h with
    | cons h0 h2 =>
      cases i with
      | zero => simp only [List.getElem?_cons_zero, Option.some.injEq] at e; subst e; exact ⟨d, rfl, h0⟩
      | succ j => simp only [List.getElem?_cons_succ] at e ⊢; exact ih h2 e
theorem dpAll_at {vs : List V} {d : PyData} {i : Nat} : ∀ {ds : List PyData}, DpAll K H vs ds → ds[i]? = some d → ∃ v, vs[i]? = some v ∧ Dp K H v d := by
  intro ds
  induction ds generalizing vs i with
  | nil => intro h e; simp at e
  | cons d' ds ih =>
    intro h e
    cases h with
    | cons h0 h2 =>
      cases i with
      | zero => simp only [List.getElem?_cons_zero, Option.some.injEq] at e; subst e; exact ⟨_, rfl, h0⟩
      | succ j => simp only [List.getElem?_cons_succ] at e ⊢; exact ih h2 e
theorem dp_tup {v : V} {ds : List PyData} (h : Dp K H v (.tuple ds)) : ∃ a xs, v = .ref a ∧ SqT K H a xs ∧ DpAll K H xs ds := by
  cases h with
  | tup h1 h2 => exact ⟨_, _, rfl, h1, h2⟩
theorem dp_lst {v : V} {ds : List PyData} (h : Dp K H v (.list ds)) : ∃ a xs, v = .ref a ∧ SqL K H a xs ∧ DpAll K H xs ds := by
  cases h with
  | lst h1 h2 => exact ⟨_, _, rfl, h1, h2⟩
theorem dp_str {v : V} {x : Str} (h : Dp K H v (.str x)) : v = .str x := by cases h; rfl
theorem dp_int {v : V} {i : Int} (h : Dp K H v (.int i)) : v = .int i := by cases h; rfl
theorem dp_non {v : V} (h : Dp K H v .none) : v = .non := by cases h; rfl
theorem dpAll_nil {vs : List V} (h : DpAll K H vs []) : vs = [] := by cases h; rfl
theorem dpAll_cons {vs : List V} {d : PyData} {ds : List PyData} (h : DpAll K H vs (d :: ds)) : ∃ v ws, vs = v :: ws ∧ Dp K H v d ∧ DpAll K H ws ds := by cases h with | cons h1 h2 => exact ⟨_, _, rfl, h1, h2⟩
end
/-! ### < of data -/
section
variable {X : Cx}
def rLtD (K : PySem.W.Frag) : R2 := fun x y H Q => ∃ d e, Dp K H x d ∧ Dp K H y e ∧ PySem.W.alike d e = true ∧ d ≠ .none ∧ d.depth < 60 ∧ Q (.bl (PySem.W.dataLt d e)) H
theorem op_ltD (hu : X.A.units + 64 < cLine) : OpR X (compareOp .Lt) (rLtD X.K) := by
  intro pins s σ H x y v u Q I rx ry h
  obtain ⟨d, e, hd, he, ha, hn, hz, q⟩ := h
  obtain ⟨as, r1⟩ := Dp.reads I d x v hd rx
  obtain ⟨bs, r2⟩ := Dp.reads I e y u he ry
  exact PySem.W.rcLt_alike d e X.A s v u as bs r1 r2 ha hn (by omega) X.prog X.w X.xe _ ⟨.bl _, H, I, rfl, q⟩
/-! ### a list's slice with a step -/
def pickV (xs : List V) (lo hi st : Option Int) : List V := (sliceRange (sliceBounds lo hi st xs.length).1 (sliceBounds lo hi st xs.length).2.1 (sliceBounds lo hi st xs.length).2.2).filterMap (xs[·]?)
theorem vals_pick {xs : List V} {us : List Value} (r : Vals xs us) : ∀ is : List Nat, Vals (is.filterMap (xs[·]?)) (is.filterMap (us[·]?))
  | [] => .nil
  | i :: is => by
    cases e : xs[i]? with
    | none =>
      rw [List.filterMap_cons_none e, List.filterMap_cons_none (r.none_of e)]
      exact vals_pick r is
    | some x =>
      obtain ⟨u, e2, rv⟩ := r.get e
      rw [List.filterMap_cons_some e, List.filterMap_cons_some e2]
      exact .cons rv (vals_pick r is)
variable {e : Expr} {te : TE} {lo hi : Option Expr} {st : Expr} {tl th ts : TO} {pos p2 : Pos}
def tSlS (K : PySem.W.Frag) (te : TE) (tl th ts : TO) : TE := fun σ H Q => te σ H fun x H1 => tl σ H1 fun l H2 => th σ H2 fun u H3 => ts σ H3 fun c H4 => ∃ a xs, x = .ref a ∧ SqL K H4 a xs ∧ c ≠ some 0 ∧ ∀ p, H4 p = none → Q (.ref p) (upd H4 p (.lst (pickV xs l u c)))
theorem pe_sliceS (he : PE X e te) (hl : PO X lo tl) (hu : PO X hi th) (hs : PO X (some st) ts) : PE X (.Subscript e (.Slice lo hi (some st) p2) pos) (tSlS X.K te tl th ts) := by
  refine ⟨fun pins s σ H Q I h => ?_⟩
  refine Subscript_ (thn (he.run pins s σ H _ I h) fun v s1 ⟨x, H1, I1, r1, q1⟩ => ?_)
  refine wpAny_Slice (thn (hl.run pins s1 σ H1 _ I1 q1) fun vl s2 ⟨l, H2, I2, pl, q2⟩ => thn (hu.run pins s2 σ H2 _ I2 q2) fun vu s3 ⟨u, H3, I3, pu, q3⟩ => thn (hs.run pins s3 σ H3 _ I3 q3) fun vc s4 ⟨c, H4, I4, pc, q4⟩ => ?_)
  have I5 : Inv X pins σ H4 { s4 with heap := s4.heap.push { cls := .type "slice", data := .fields #[vl, vu, vc] } } := I4.kept (t' := s4.toks) fun b ob q => Heap.get?_push_of_some _ q
  obtain ⟨a, xs, rfl, hx, hc, q⟩ := q4
  cases r1
  obtain ⟨its, r, ht, hz⟩ := I5.list hx
  have hlen := r.length
  refine tail_any (ops := [.ref a, .ref s4.heap.objs.size]) ht.isList.typeIs slot_list_getitem.lookup ?_ (by with_unfolding_all rfl)
  refine wpAny_getItem_list_slice ht.isList (Heap.IsSliceOf.new ..) pl pu pc hc ?_ (by rw [List.size_toArray] <;> omega)
  have hpick : slicePick its.toArray l u c = ((sliceRange (sliceBounds l u c its.length).1 (sliceBounds l u c its.length).2.1 (sliceBounds l u c its.length).2.2).filterMap (its[·]?)).toArray := by
    unfold slicePick
    simp only [List.size_toArray, List.getElem?_toArray]
  rw [hpick]
  have rp := vals_pick r (sliceRange (sliceBounds l u c xs.length).1 (sliceBounds l u c xs.length).2.1 (sliceBounds l u c xs.length).2.2)
  rw [hlen] at rp
  refine ⟨.ref (s4.heap.push { cls := .type "slice", data := .fields #[vl, vu, vc] }).objs.size, _, I5.laid (t' := s4.toks) (o := .lst (pickV xs l u c)) (fun b ob q => Heap.get?_push_of_some _ q) (Nat.le_refl _) ?_, rfl, q _ ?_⟩
  · refine ⟨?_, _, 0, by unfold pickV; rw [hlen]; exact rp, Heap.get?_push_size _ rfl⟩
    have z := slicePick_size_le its.toArray l u c
    rw [hpick, List.size_toArray, List.size_toArray] at z
    unfold pickV
    rw [hlen, rp.length]
    omega
  · exact I5.hok.fresh (Nat.le_refl _)
end
end My

/-! own layer: x in o, o[x], len(o) by own methods -/
namespace My
open PySem PySem.Spec PyProof.Rows L2
/-- what a call of a special method by len asks of a class -/
def spcB (K : PySem.W.Frag) (C : Addr) (name : Str) : Bool := match K.lookup C with
  | some ⟨.type "type", _, .cls cd, sl⟩ => match cd.mro, sl.toList with
    | [.ref C', .type o], [_, _, _, _, some (.builtin _), _] => C' == C && (o == "object" && (!cd.hasDel && (PySem.W.nsOkIn K cd.ns && He.eqO (PySem.W.nsIn K cd.ns name) (some (some (.ref (He.ma K C name)))))))
    | _, _ => false
  | _ => false
theorem look_object_len : typeLookup (.type "object") ("__len__" : Str) = pure none := by rw [typeLookup_type, builtinLookup_eq_fast]; kernel_rfl
theorem spcB_ok {K : PySem.W.Frag} {h : Heap} {C x : Addr} {ox of : Obj} (hK : K.In h) (nb : spcB K C "__len__" = true) (hf : h.get? (He.ma K C "__len__") = some of) (hc : of.cls = .type "function") (hx : h.get? x = some ox) (hxc : ox.cls = .ref C) : h.OwnSpecial x C (He.ma K C "__len__") "object" "__len__" := by
  unfold spcB at nb
  split at nb
  · rename_i dd cd sl hl
    split at nb
    · rename_i C' o k0 k1 k2 k3 nw k5 hm hs
      obtain ⟨e1, nb⟩ := He.ba nb
      obtain ⟨e2, nb⟩ := He.ba nb
      obtain ⟨e3, nb⟩ := He.ba nb
      obtain ⟨e4, e5⟩ := He.ba nb
      have e1 := eq_of_beq e1
      have e2 := eq_of_beq e2
      subst e1 e2
      have hsl : sl = #[k0, k1, k2, k3, some (.builtin nw), k5] := by
        rw [← Array.toArray_toList (xs := sl), hs]
      have g := hK _ _ hl
      rw [hsl] at g
      obtain ⟨nm, bs, mro, ns, q, hd, sn, sub, ab, col, del⟩ := cd
      simp only at hm e3 e4 e5 g
      subst hm
      have e3 : del = false := by
        cases del
        · rfl
        · cases e3
      subst e3
      exact ⟨ox, of, nm, q, ns, bs, _, hd, sn, sub, ab, col, dd, k0, k1, k2, k3, k5, nw, h.nsMap ns, _, hx, hxc, g, Heap.Ns.of_isNs (PySem.W.isNs_of_in hK e4), ns_at hK (He.eqO_ok e5), hf, hc, PySem.F.cmp_object.mro, look_object_len⟩
    · cases nb
  · cases nb
section
variable {X : Cx} {CX : CXT} {k : Nat} {m qual : Str} {st : Stmt} {sp : Sp} {C : Addr} {ps : List Str}
/-- x in o, by an own __contains__ -/
def rInOwn (C : Addr) (sp : Sp) : R2 := fun x y H Q => ∃ b dy gs, y = .ref b ∧ H b = some (.ins C dy gs) ∧ sp [.ref b, x] H (fun v H' => ∃ k, v = .bl k ∧ Q (.bl k) H') E0
def rNinOwn (C : Addr) (sp : Sp) : R2 := fun x y H Q => ∃ b dy gs, y = .ref b ∧ H b = some (.ins C dy gs) ∧ sp [.ref b, x] H (fun v H' => ∃ k, v = .bl k ∧ Q (.bl (!k)) H') E0
theorem op_inOwn (g : GMe X.K C "__contains__" qual st ps) (F : FnAt X.prog X.w X.K X.mg X.base CX k (He.ma X.K C "__contains__") ps sp) (hr : Room k X.A) (hx : Passes CX X E0 := by first | exact pass0 | exact passL) : OpR X (compareOp .In) (rInOwn C sp) := by
  intro pins s σ H x y v u Q I rx ry h
  obtain ⟨b, dy, gs, rfl, hb, hsp⟩ := h
  cases ry
  obtain ⟨mB, J, _⟩ := ins_get I.hok hb
  obtain ⟨od, J, _⟩ := J.look
  obtain ⟨mm, hF⟩ := I.fr
  refine PySem.W.in_K hF I.ok.mod.kin J g.h.at_ g.h.fn ?_
  refine thn (run_fn (vs := [.ref b, x]) F hr g.b .nil hx I (.cons rfl (.cons rx .nil)) hsp) fun r s' q => ?_
  obtain ⟨v, H', I', rv, ⟨k, rfl, q⟩⟩ := q
  cases rv
  exact wpAny_pure ⟨.bl k, H', I', rfl, q⟩
theorem op_ninOwn (g : GMe X.K C "__contains__" qual st ps) (F : FnAt X.prog X.w X.K X.mg X.base CX k (He.ma X.K C "__contains__") ps sp) (hr : Room k X.A) (hx : Passes CX X E0 := by first | exact pass0 | exact passL) : OpR X (compareOp .NotIn) (rNinOwn C sp) := by
  intro pins s σ H x y v u Q I rx ry h
  obtain ⟨b, dy, gs, rfl, hb, hsp⟩ := h
  cases ry
  obtain ⟨mB, J, _⟩ := ins_get I.hok hb
  obtain ⟨od, J, _⟩ := J.look
  obtain ⟨mm, hF⟩ := I.fr
  refine PySem.W.notIn_K hF I.ok.mod.kin J g.h.at_ g.h.fn ?_
  refine thn (run_fn (vs := [.ref b, x]) F hr g.b .nil hx I (.cons rfl (.cons rx .nil)) hsp) fun r s' q => ?_
  obtain ⟨v, H', I', rv, ⟨k, rfl, q⟩⟩ := q
  cases rv
  exact wpAny_pure ⟨.bl (!k), H', I', rfl, q⟩
/-- o[x], by an own __getitem__ -/
def rGetOwn (C : Addr) (sp : Sp) (E : XK) : R2 := fun x y H Q => ∃ b dy gs, x = .ref b ∧ H b = some (.ins C dy gs) ∧ sp [.ref b, y] H Q E
variable {o i : Expr} {ta tb : TE} {pos : Pos} {E : XK}
theorem passes_in1 (hx : Passes CX X E) : Passes CX (in1 X) E := fun pins σ H s e s' I' c => hx pins σ H s e s' (inv_dn I') c
theorem pe_getOwn (g : GMe X.K C "__getitem__" qual st ps) (F : FnAt X.prog X.w X.K X.mg X.base CX k (He.ma X.K C "__getitem__") ps sp) (hr : Room (k + 1) X.A) (ho : PE X o ta) (hi : PE X i tb) (hx : Passes CX X E := by first | exact pass0 | exact passL)
    (hfn : PySem.W.fnIn X.K (He.ma X.K C "__getitem__") = true) (hs : ∀ v u, subscripted i true v u = runValue (.builtin "lifetime.subscript" ⟨[v, u], []⟩) := by intro _ _; rfl) : PE X (.Subscript o i pos) (tOp (rGetOwn C sp E) ta tb) := by
  refine ⟨fun pins s σ H Q I h => ?_⟩
  refine Subscript_ (binT ho hi I h fun v u s2 x y H2 I2 rx ry q => ?_)
  obtain ⟨b, dy, gs, rfl, hb, hsp⟩ := q
  cases rx
  obtain ⟨mB, J, _⟩ := ins_get I2.hok hb
  obtain ⟨od, J, _⟩ := J.look
  obtain ⟨mm, hF⟩ := I2.fr
  refine PySem.W.sub_K hF I2.ok.mod.kin J g.h.at_ hfn g.h.fn ?_ (hs _ _)
  refine thn (run_fn (X := in1 X) (vs := [.ref b, y]) F hr.in1 g.b .nil (passes_in1 hx) (inv_up I2) (.cons rfl (.cons ry .nil)) hsp) fun r s' q => ?_
  obtain ⟨v, H', I', rv, q⟩ := q
  exact ⟨v, H', inv_dn I', rv, q⟩
/-- len(o), by an own __len__ -/
def rLenOwn (C : Addr) (sp : Sp) : List V → Hp → VK → Prop := fun xs H Q => ∃ b dy gs, xs = [.ref b] ∧ H b = some (.ins C dy gs) ∧ sp [.ref b] H (fun v H' => ∃ n : Int, v = .int n ∧ 0 ≤ n ∧ n < 2 ^ 63 ∧ Q (.int n) H') E0
theorem call_lenOwn (nb : spcB X.K C "__len__" = true) (g : GMe X.K C "__len__" qual st ps) (F : FnAt X.prog X.w X.K X.mg X.base CX k (He.ma X.K C "__len__") ps sp) (hr : Room (k + 1) X.A) (hx : Passes CX X E0 := by first | exact pass0 | exact passL) : CallR X (.builtin "len") (rLenOwn C sp) := by
  intro pins s σ H xs us Q I r h
  obtain ⟨b, dy, gs, rfl, hb, hsp⟩ := h
  obtain ⟨u, rfl, ru⟩ := vals1 r
  cases ru
  obtain ⟨mB, J, _⟩ := ins_get I.hok hb
  obtain ⟨od, J, _⟩ := J.look
  obtain ⟨mm, hF⟩ := I.fr
  have hK : X.K.In s.heap := fun b o e => hF.keep b o (I.ok.mod.kin b o e)
  obtain ⟨of, hf, hc⟩ : ∃ of, s.heap.get? (He.ma X.K C "__len__") = some of ∧ of.cls = .type "function" := by
    have h := g.h.fn
    unfold PySem.W.isFn at h
    have h := eq_of_beq h
    obtain ⟨oc, od, kV, doc, pm, an, cdv, ct, osl, e, hl, hcd⟩ := g.f.ex
    have h : Option.map (fun x => x.cls) (List.lookup (He.ma X.K C "__len__") X.K) = some (.type "function") := h
    rw [hl] at h
    exact ⟨_, hK _ _ hl, Option.some.inj h⟩
  refine len_own (spcB_ok hK nb hf hc J.at_ J.cls) ?_
  refine thn (run_fn (X := in1 X) (vs := [.ref b]) F hr.in1 g.b .nil (passes_in1 hx) (inv_up I) (.cons rfl .nil) hsp) fun r s' q => ?_
  obtain ⟨v, H', I', rv, ⟨n, rfl, h0, h1, q⟩⟩ := q
  obtain ⟨t, rfl⟩ := rv
  exact ⟨n, t, rfl, h0, h1, ⟨.int n, H', (inv_dn I').tok _, ⟨_, rfl⟩, q⟩⟩
end
end My

/-! own layer, 6: what the written part holds, read off once -/
namespace My
open PySem PySem.Spec PyProof.Rows L2
/-- a def: where its function stands, what it is -/
structure Df where
  adr : PySem.W.Frag → Addr
  name : Str
  qual : Str
  st : Stmt
def Df.val (d : Df) : He.FnW := some (d.name, d.qual, defArgs d.st, .stmts (defBody d.st), defScope d.st, mainGlobals, [], builtinsNs)
def dfV (K : PySem.W.Frag) (d : Df) : He.FnW := match K.lookup (d.adr K) with
  | some ⟨_, _, .func fd, _⟩ => some (fd.name, fd.qualname, fd.params, fd.body, fd.scope, fd.globals, fd.closure, fd.builtins)
  | _ => none
def dfB (K : PySem.W.Frag) (d : Df) : Bool := PySem.W.keepIn K (.ref (d.adr K)) && match K.lookup (d.adr K) with
  | some ⟨_, _, .func fd, _⟩ => PySem.W.codeIn K fd.code d.qual && match fd.defaults with
    | .none => true
    | _ => false
  | _ => false
abbrev HV : Type := Bool × List He.FnW
def obsK (ex : PySem.W.Frag → Bool) (ds : List Df) (K : PySem.W.Frag) : HV := (ex K && ds.all (dfB K), ds.map (dfV K))
def valK (ds : List Df) : HV := (true, ds.map Df.val)
def frK (n : Nat) (g : Addr → Option Obj) : PySem.W.Frag := He.frT g (sysModules :: He.asD g n)
def hook (n : Nat) (ex : PySem.W.Frag → Bool) (ds : List Df) : PySem.W.Hook where
  α := HV
  obs s := obsK ex ds (frK n s.heap.get?)
  val _ := valK ds
  says _ h := ∃ K : PySem.W.Frag, K.In h ∧ obsK ex ds K = valK ds
  of _ s e := ⟨_, He.frT_in, e⟩
  keeps _ _ _ := fun ⟨K, i, c⟩ k => ⟨K, fun a o e => k a o (i a o e), c⟩
def obT (n : Nat) (ex : PySem.W.Frag → Bool) (ds : List Df) (s : PySem.W.SharedT) : HV := obsK ex ds (frK n (HandSHeadRun.getT s))
theorem obT_eq {n : Nat} {ex : PySem.W.Frag → Bool} {ds : List Df} (s : PySem.W.SharedT) : obT n ex ds s = (hook n ex ds).obs s.abs := by
  unfold obT
  rw [funext (HandSHeadRun.getT_eq s)]
  rfl
section
variable {K : PySem.W.Frag} {ex : PySem.W.Frag → Bool} {ds : List Df} {d : Df}
theorem says_ex (c : obsK ex ds K = valK ds) : ex K = true := (He.ba (congrArg Prod.fst c)).1
theorem says_fun (c : obsK ex ds K = valK ds) (i : Nat) (h : ds[i]? = some d) : Fun K d.name d.qual d.st (d.adr K) (fdOf K (d.adr K)) := by
  have e1 : dfB K d = true := List.all_eq_true.mp (He.ba (congrArg Prod.fst c)).2 d (List.mem_of_getElem? h)
  have e2 : dfV K d = d.val := by
    have e := congrArg (fun z : HV => z.2[i]?) c
    have e : (ds.map (dfV K))[i]? = (ds.map Df.val)[i]? := e
    rw [List.getElem?_map, List.getElem?_map, h] at e
    exact Option.some.inj e
  unfold dfB at e1
  obtain ⟨k1, k2⟩ := He.ba e1
  unfold dfV at e2
  split at e2
  · rename_i oc od fd osl hl
    rw [hl] at k2
    obtain ⟨k3, k4⟩ := He.ba k2
    have hd : fd.defaults = .none := by
      revert k4
      cases fd.defaults <;> intro k4 <;> first | rfl | cases k4
    have e3 := Option.some.inj e2
    simp only [Prod.mk.injEq] at e3
    obtain ⟨f1, f2, f3, f4, f5, f6, f7, f8⟩ := e3
    have ef : fdOf K (d.adr K) = fd := by
      unfold fdOf
      rw [hl]
    rw [ef]
    refine ⟨⟨oc, od, fd.kwdefaults, fd.doc, fd.pyModule, fd.annotations, fd.code, fd.closureTuple, osl, ?_, hl, k3⟩, k1⟩
    cases fd
    simp only at f1 f2 f3 f4 f5 f6 f7 f8 hd
    subst f1 f2 f3 f4 f5 f6 f7 f8 hd
    rfl
  · cases e2
/-- a def without defaults: by its written arguments -/
theorem fun_binds {x qual : Str} {st : Stmt} {f : Addr} {fd : FuncData} {ps : List Str} (F : Fun K x qual st f fd)
    (h : ∀ (kV doc pm : Value) (an : Option Addr) (cdv ct : Value) (us : List Value), us.length = ps.length → bindArgs (PySem.W.fnOf x qual (defArgs st) (defBody st) (defScope st) Value.none kV doc pm an cdv ct) { pos := us } = pure (ps.zip us)) : L2.Binds K fd ps [] := by
  obtain ⟨oc, od, kV, doc, pm, an, cdv, ct, osl, e, hl, hc⟩ := F.ex
  subst e
  exact Binds.all (h kV doc pm an cdv ct)
/-! what is asked beside He's facts -/
def insB (K : PySem.W.Frag) (x : Str) : Bool := He.eqO (PySem.W.findIn K (.ref (He.ga K x)) "__class__") (some (some (.builtin "object.__class__"))) && (He.eqO (PySem.W.specialIn K (.builtin "object.__class__") "__get__") (some (some (.builtin "getset_descriptor.__get__"))) &&
  (decide (PySem.W.takesIn K (.builtin "object.__class__") = some true) && decide (PySem.W.mroIn K (He.ga K x) (.type "object") = some true)))
theorem insB_ok {x : Str} (h : insB K x = true) : InsC K (He.ga K x) := by
  obtain ⟨h1, h⟩ := He.ba h
  obtain ⟨h2, h⟩ := He.ba h
  obtain ⟨h3, h4⟩ := He.ba h
  exact ⟨He.eqO_ok h1, He.eqO_ok h2, of_decide_eq_true h3, of_decide_eq_true h4⟩
def propB (K : PySem.W.Frag) (x m : Str) : Bool := He.eqO (PySem.W.findIn K (.ref (He.ga K x)) m) (some (some (.ref (He.ma K (He.ga K x) m)))) && (He.eqO (PySem.W.specialIn K (.ref (He.ma K (He.ga K x) m)) "__get__") (some (some (.builtin "property.__get__"))) &&
  (decide (PySem.W.takesIn K (.ref (He.ma K (He.ga K x) m)) = some true) && match PySem.W.recIn K (He.ma K (He.ga K x) m) "property" with
    | some (.ref _ :: _) => true
    | _ => false))
theorem propB_ok {x m : Str} (h : propB K x m = true) : PropOf K (He.ga K x) m (He.ma K (He.ga K x) m) (gtOf K (He.ma K (He.ga K x) m)) := by
  obtain ⟨h1, h⟩ := He.ba h
  obtain ⟨h2, h⟩ := He.ba h
  obtain ⟨h3, h4⟩ := He.ba h
  refine ⟨He.eqO_ok h1, He.eqO_ok h2, of_decide_eq_true h3, ?_⟩
  unfold gtOf
  split at h4
  · rename_i g rest e
    rw [e]
    exact ⟨rest, rfl⟩
  · cases h4
def bltB (K : PySem.W.Frag) (x : Str) (b : String) : Bool := He.eqO (PySem.W.nsIn K mainGlobals x) (some (some (.builtin b)))
theorem bltB_ok {h : Heap} {mg : Str → Option Value} (X : K.In h) (G : h.Ns mainGlobals mg) {x : Str} {b : String} (c : bltB K x b = true) : mg x = some (.builtin b) := PySem.W.mg_of X G (He.eqO_ok c)
theorem all_get {α : Type} {p : α → Bool} {l : List α} (h : l.all p = true) (i : Nat) {x : α} (e : l[i]? = some x) : p x = true := List.all_eq_true.mp h x (List.mem_of_getElem? e)
theorem gfn_of {mg : Str → Option Value} {h : Heap} {x : Str} {st : Stmt} {ps : List Str} (X : K.In h) (G : h.Ns mainGlobals mg) (c : He.Fa.ok K (.glo x) = true) (F : Fun K x x st (He.ga K x) (fdOf K (He.ga K x)))
    (b : ∀ (kV doc pm : Value) (an : Option Addr) (cdv ct : Value) (us : List Value), us.length = ps.length → bindArgs (PySem.W.fnOf x x (defArgs st) (defBody st) (defScope st) Value.none kV doc pm an cdv ct) { pos := us } = pure (ps.zip us)) : GFn K mg x st ps :=
  ⟨He.glo_ok X G c, F, fun_binds F b⟩
theorem gme_of {x m qual : Str} {st : Stmt} {ps : List Str} (c : He.Fa.ok K (.meth x m) = true) (F : Fun K m qual st (He.ma K (He.ga K x) m) (fdOf K (He.ma K (He.ga K x) m)))
    (b : ∀ (kV doc pm : Value) (an : Option Addr) (cdv ct : Value) (us : List Value), us.length = ps.length → bindArgs (PySem.W.fnOf m qual (defArgs st) (defBody st) (defScope st) Value.none kV doc pm an cdv ct) { pos := us } = pure (ps.zip us)) : GMe K (He.ga K x) m qual st ps :=
  ⟨He.meth_ok c, F, fun_binds F b⟩
theorem gop_of {x m qual : Str} {st : Stmt} (c : He.Fa.ok K (.meth x m) = true) (F : Fun K m qual st (He.ma K (He.ga K x) m) (fdOf K (He.ma K (He.ga K x) m)))
    (b : ∀ (kV doc pm : Value) (an : Option Addr) (cdv ct : Value) (us : List Value), us.length = 2 → bindArgs (PySem.W.fnOf m qual (defArgs st) (defBody st) (defScope st) Value.none kV doc pm an cdv ct) { pos := us } = pure ((["self", "other"] : List Str).zip us)) : GOp K (He.ga K x) m qual st :=
  ⟨(He.meth_ok c).at_, (He.meth_ok c).fn, F, fun_binds F b⟩
theorem gpr_of {x m qual : Str} {st : Stmt} (c : propB K x m = true) (F : Fun K m qual st (gtOf K (He.ma K (He.ga K x) m)) (fdOf K (gtOf K (He.ma K (He.ga K x) m))))
    (b : ∀ (kV doc pm : Value) (an : Option Addr) (cdv ct : Value) (us : List Value), us.length = 1 → bindArgs (PySem.W.fnOf m qual (defArgs st) (defBody st) (defScope st) Value.none kV doc pm an cdv ct) { pos := us } = pure ((["self"] : List Str).zip us)) : GPr K (He.ga K x) m qual st :=
  ⟨propB_ok c, F, fun_binds F b⟩
theorem gmk_of {mg : Str → Option Value} {h : Heap} {x : Str} (X : K.In h) (G : h.Ns mainGlobals mg) (c : He.Fa.ok K (.glo x) = true) (m : He.Fa.ok K (.mkr x) = true) : GMk K mg x := ⟨He.glo_ok X G c, He.mkr_ok m⟩
end
end My

/-! own layer, 11: small values of data in new objects, and their repr -/
namespace My
open PySem PySem.Spec PyProof.Rows L2
inductive Pw (R : V → PyData → Prop) : List V → List PyData → Prop
  | nil : Pw R [] []
  | cons {v : V} {vs : List V} {d : PyData} {ds : List PyData} : R v d → Pw R vs ds → Pw R (v :: vs) (d :: ds)
section
variable {R S : V → PyData → Prop} {xs : List V} {ds : List PyData}
theorem Pw.imp (h : ∀ v d, R v d → S v d) (p : Pw R xs ds) : Pw S xs ds := by
  induction p with
  | nil => exact .nil
  | cons a _ ih => exact .cons (h _ _ a) ih
theorem Pw.snoc {v : V} {d : PyData} (p : Pw R xs ds) (h : R v d) : Pw R (xs ++ [v]) (ds ++ [d]) := by
  induction p with
  | nil => exact .cons h .nil
  | cons a _ ih => exact .cons a ih
theorem Pw.len (p : Pw R xs ds) : xs.length = ds.length := by
  induction p with
  | nil => rfl
  | cons _ _ ih => simp [ih]
end
/-- a value that is no object -/
def Lf (v : V) (d : PyData) : Prop := (v = .non ∧ d = .none) ∨ (∃ b, v = .bl b ∧ d = .bool b) ∨ (∃ i : Int, v = .int i ∧ d = .int i ∧ i.natAbs < 2 ^ 400) ∨ ∃ x : Str, v = .str x ∧ d = .str x ∧ (reprText x).length ≤ 60
/-- a value of data, at most n deep, its objects at addresses of F -/
def Dv (F : Addr → Prop) (H : Hp) : Nat → V → PyData → Prop
  | 0 => Lf
  | n + 1 => fun v d => Lf v d ∨ ∃ a, v = .ref a ∧ F a ∧ ((∃ xs ds, d = .list ds ∧ H a = some (.lst xs) ∧ Pw (Dv F H n) xs ds ∧ xs.length ≤ 4) ∨ (∃ xs ds, d = .tuple ds ∧ H a = some (.tup xs) ∧ Pw (Dv F H n) xs ds ∧ xs.length ≤ 4) ∨
      (d = .dict [] ∧ H a = some (.dK [])) ∨ ∃ (k : Str) (v' : V) (d' : PyData), d = .dict [(.str k, d')] ∧ H a = some (.dK [(.inr k, v')]) ∧ Dv F H n v' d' ∧ (reprText k).length ≤ 60)
section
variable {F G : Addr → Prop} {H H' : Hp}
theorem Dv.imp (hF : ∀ a, F a → G a) (hH : ∀ a o, F a → H a = some o → H' a = some o) : ∀ (n : Nat) (v : V) (d : PyData), Dv F H n v d → Dv G H' n v d
  | 0, _, _, h => h
  | n + 1, v, d, h => by
    rcases h with h | ⟨a, e, f, h⟩
    · exact .inl h
    refine .inr ⟨a, e, hF a f, ?_⟩
    rcases h with ⟨xs, ds, e1, e2, p, l⟩ | ⟨xs, ds, e1, e2, p, l⟩ | ⟨e1, e2⟩ | ⟨k, v', d', e1, e2, p, l⟩
    · exact .inl ⟨xs, ds, e1, hH _ _ f e2, p.imp (Dv.imp hF hH n), l⟩
    · exact .inr (.inl ⟨xs, ds, e1, hH _ _ f e2, p.imp (Dv.imp hF hH n), l⟩)
    · exact .inr (.inr (.inl ⟨e1, hH _ _ f e2⟩))
    · exact .inr (.inr (.inr ⟨k, v', d', e1, hH _ _ f e2, Dv.imp hF hH n _ _ p, l⟩))
theorem Dv.up : ∀ (n : Nat) (v : V) (d : PyData), Dv F H n v d → Dv F H (n + 1) v d
  | 0, _, _, h => .inl h
  | n + 1, v, d, h => by
    rcases h with h | ⟨a, e, f, h⟩
    · exact .inl h
    refine .inr ⟨a, e, f, ?_⟩
    rcases h with ⟨xs, ds, e1, e2, p, l⟩ | ⟨xs, ds, e1, e2, p, l⟩ | ⟨e1, e2⟩ | ⟨k, v', d', e1, e2, p, l⟩
    · exact .inl ⟨xs, ds, e1, e2, p.imp (Dv.up n), l⟩
    · exact .inr (.inl ⟨xs, ds, e1, e2, p.imp (Dv.up n), l⟩)
    · exact .inr (.inr (.inl ⟨e1, e2⟩))
    · exact .inr (.inr (.inr ⟨k, v', d', e1, e2, Dv.up n _ _ p, l⟩))
theorem Dv.ups {n : Nat} {v : V} {d : PyData} (h : Dv F H n v d) : ∀ j, Dv F H (n + j) v d
  | 0 => h
  | j + 1 => Dv.up _ _ _ (h.ups j)
theorem Dv.same {n : Nat} {v : V} {d : PyData} (h : Dv F H n v d) (S : Same H H') : Dv F H' n v d := h.imp (fun _ f => f) (fun a o _ e => S a o e)
theorem Dv.but {n : Nat} {p : Addr} {v : V} {d : PyData} (h : Dv F H n v d) (hp : ¬ F p) (B : But p H H') : Dv F H' n v d := h.imp (fun _ f => f) (fun a o f e => B a o (fun z => hp (z ▸ f)) e)
theorem Dv.flat {n : Nat} {v : V} {d : PyData} (h : Dv F H n v d) : (∃ a, v = .ref a) ∨ Lf v d := by
  cases n with
  | zero => exact .inr h
  | succ n =>
    rcases h with h | ⟨a, e, _⟩
    · exact .inr h
    · exact .inl ⟨a, e⟩
end
/-! ### its size -/
def bd : Nat → Nat
  | 0 => 500
  | n + 1 => 4 * bd n + 100
theorem bd_ge : ∀ n, 500 ≤ bd n
  | 0 => Nat.le_refl _
  | n + 1 => by have := bd_ge n; show 500 ≤ 4 * bd n + 100; omega
theorem Lf.size {v : V} {d : PyData} (h : Lf v d) : d.showable = true ∧ d.depth = 0 ∧ d.shown.length ≤ 500 := by
  rcases h with ⟨_, rfl⟩ | ⟨b, _, rfl⟩ | ⟨i, _, rfl, hi⟩ | ⟨x, _, rfl, hx⟩
  · exact ⟨rfl, rfl, by decide +kernel⟩
  · cases b <;> exact ⟨rfl, rfl, by decide +kernel⟩
  · refine ⟨decide_eq_true (Nat.lt_of_lt_of_le (log_lt (k := 400) (by omega) hi) (by omega)), rfl, ?_⟩
    have := int_repr_le (k := 400) (by omega) hi
    show (Str.ofString i.repr).length ≤ 500
    rw [PySem.ofString_length]
    omega
  · exact ⟨rfl, rfl, Nat.le_trans hx (by decide)⟩
theorem all_size {R : V → PyData → Prop} {n b : Nat} (hR : ∀ v d, R v d → d.showable = true ∧ d.depth ≤ n ∧ d.shown.length ≤ b) {xs : List V} {ds : List PyData} (p : Pw R xs ds) :
    PyData.showableAll ds = true ∧ PyData.depthAll ds ≤ n ∧ ((PyData.shownAll ds).map (·.length)).sum ≤ b * ds.length ∧ (PyData.shownAll ds).length = ds.length := by
  induction p with
  | nil => exact ⟨rfl, Nat.zero_le _, Nat.zero_le _, rfl⟩
  | @cons v vs d ds h _ ih =>
    obtain ⟨a1, a2, a3⟩ := hR v d h
    obtain ⟨b1, b2, b3, b4⟩ := ih
    refine ⟨by simp [PyData.showableAll, a1, b1], by simp only [PyData.depthAll]; omega, ?_, by simp [PyData.shownAll, b4]⟩
    simp only [PyData.shownAll, List.map_cons, List.sum_cons, List.length_cons, Nat.mul_add]
    omega
theorem Dv.size {F : Addr → Prop} {H : Hp} : ∀ (n : Nat) (v : V) (d : PyData), Dv F H n v d → d.showable = true ∧ d.depth ≤ n ∧ d.shown.length ≤ bd n
  | 0, v, d, h => by
    obtain ⟨a, b, c⟩ := Lf.size h
    exact ⟨a, by omega, c⟩
  | n + 1, v, d, h => by
    rcases h with h | ⟨a, e, f, h⟩
    · obtain ⟨a, b, c⟩ := Lf.size h
      exact ⟨a, by omega, Nat.le_trans c (bd_ge _)⟩
    have hb : bd (n + 1) = 4 * bd n + 100 := rfl
    rcases h with ⟨xs, ds, rfl, e2, p, l⟩ | ⟨xs, ds, rfl, e2, p, l⟩ | ⟨rfl, e2⟩ | ⟨k, v', d', rfl, e2, p, l⟩
    · obtain ⟨a1, a2, a3, a4⟩ := all_size (Dv.size n) p
      have hl := p.len
      have hm : bd n * ds.length ≤ bd n * 4 := Nat.mul_le_mul_left _ (by omega)
      have ht := listText_len_le (PyData.shownAll ds)
      refine ⟨by simpa [PyData.showable] using a1, by simp only [PyData.depth]; omega, ?_⟩
      show (listText (PyData.shownAll ds)).length ≤ _
      omega
    · obtain ⟨a1, a2, a3, a4⟩ := all_size (Dv.size n) p
      have hl := p.len
      have hm : bd n * ds.length ≤ bd n * 4 := Nat.mul_le_mul_left _ (by omega)
      have ht := tupleText_len_le (PyData.shownAll ds)
      refine ⟨by simpa [PyData.showable] using a1, by simp only [PyData.depth]; omega, ?_⟩
      show (tupleText (PyData.shownAll ds)).length ≤ _
      omega
    · refine ⟨rfl, by simp [PyData.depth, PyData.depthKv], ?_⟩
      have ht := dictText_len_le []
      show (dictText []).length ≤ _
      simp only [List.map_nil, List.sum_nil, List.length_nil] at ht
      omega
    · obtain ⟨a1, a2, a3⟩ := Dv.size n _ _ p
      refine ⟨by simp [PyData.showable, PyData.showableKv, a1], by simp only [PyData.depth, PyData.depthKv]; omega, ?_⟩
      have ht := dictText_len_le [PyData.shown (.str k) ++ ": " ++ PyData.shown d']
      show (dictText [PyData.shown (.str k) ++ ": " ++ PyData.shown d']).length ≤ _
      simp only [List.map_cons, List.map_nil, List.sum_cons, List.sum_nil, List.length_cons, List.length_nil, strLen_append] at ht
      have e1 : (PyData.shown (.str k)).length ≤ 60 := l
      have e3 : ((": " : String) : Str).length = 2 := rfl
      omega
/-! ### as it stands in the heap -/
/-- the dict of the modules is none of these objects -/
def SysD (K : PySem.W.Frag) : Prop := ∃ (c : Value) (x : Option Addr) (es : Array DictEntry) (ep : Nat) (sl : Array (Option Value)), K.lookup sysModules = some ⟨c, x, .dict es ep, sl⟩
section
variable {X : Cx} {pins : List (Addr × Obj)} {σ : L2.St} {F : Addr → Prop} {H : Hp} {s : Shared}
theorem readsAll_of {R : V → PyData → Prop} (hR : ∀ v d u, R v d → RelV v u → ∃ as, Reads s.heap u d as ∧ sysModules ∉ as) {xs : List V} {ds : List PyData} (p : Pw R xs ds) : ∀ {us : List Value}, Vals xs us → ∃ as, ReadsAll s.heap us ds as ∧ sysModules ∉ as := by
  induction p with
  | nil =>
    intro us r
    cases r
    exact ⟨_, .nil, by simp⟩
  | cons h _ ih =>
    intro us r
    cases r with
    | cons r1 r2 =>
      obtain ⟨as, q1, m1⟩ := hR _ _ _ h r1
      obtain ⟨bs, q2, m2⟩ := ih r2
      exact ⟨_, .cons q1 q2, by simp only [List.mem_append, not_or]; exact ⟨m1, m2⟩⟩
theorem Dv.reads (I : L2.Inv X pins σ H s) (hS : SysD X.K) : ∀ (n : Nat) (v : V) (d : PyData) (u : Value), Dv F H n v d → RelV v u → ∃ as, Reads s.heap u d as ∧ sysModules ∉ as := by
  have leaf : ∀ (v : V) (d : PyData) (u : Value), Lf v d → RelV v u → ∃ as, Reads s.heap u d as ∧ sysModules ∉ as := by
    intro v d u h r
    rcases h with ⟨rfl, rfl⟩ | ⟨b, rfl, rfl⟩ | ⟨i, rfl, rfl, _⟩ | ⟨x, rfl, rfl, _⟩
    · cases r
      exact ⟨_, .none, by simp⟩
    · cases r
      exact ⟨_, .bool b, by simp⟩
    · obtain ⟨t, rfl⟩ := r
      exact ⟨_, .int i t, by simp⟩
    · obtain ⟨t, rfl⟩ := r
      exact ⟨_, .str x t, by simp⟩
  intro n
  induction n with
  | zero => exact leaf
  | succ n ih =>
    intro v d u h r
    rcases h with h | ⟨a, rfl, f, h⟩
    · exact leaf v d u h r
    obtain rfl : u = Value.ref a := r
    rcases h with ⟨xs, ds, rfl, e2, p, l⟩ | ⟨xs, ds, rfl, e2, p, l⟩ | ⟨rfl, e2⟩ | ⟨k, v', d', rfl, e2, p, l⟩
    · obtain ⟨_, its, m, rv, ho⟩ := I.hok a _ e2
      obtain ⟨as, q, hm⟩ := readsAll_of ih p rv
      refine ⟨_, .list ho rfl rfl (by simpa using q), ?_⟩
      have na : sysModules ≠ a := by
        intro z
        obtain ⟨c, x, es, ep, sl, hk⟩ := hS
        have h1 := I.kIn _ _ hk
        rw [z, ho] at h1
        cases h1
      simp only [List.mem_cons, not_or]
      exact ⟨na, hm⟩
    · obtain ⟨its, rv, ⟨o, ho, hc, m, hd⟩, _⟩ := I.tuple (.inl (.inl e2) : SqT X.K H a xs)
      obtain ⟨as, q, hm⟩ := readsAll_of ih p rv
      exact ⟨_, .tuple ho hc hd (by simpa using q), hm⟩
    · obtain ⟨_, na, vs, kv, o, es, ep, ho, ⟨hc, _⟩, hd, _, hp, _⟩ := dk_of I.hok e2
      cases kv
      have hn : es.toList = [] := by
        cases h : es.toList with
        | nil => rfl
        | cons a b => rw [h] at hp; cases hp
      refine ⟨_, .dict (kvs := []) ho hc hd (by rw [hn]; exact .nil) (by rw [hn]; exact .nil), ?_⟩
      simp only [List.append_nil, List.mem_cons, List.not_mem_nil, or_false]
      exact fun z => by rw [z] at na; simp at na
    · obtain ⟨_, na, vs, kv, o, es, ep, ho, ⟨hc, _⟩, hd, _, hp, _⟩ := dk_of I.hok e2
      cases kv with
      | @cons x y _ _ hxy rest =>
        cases rest
        obtain ⟨hk, hv⟩ := hxy
        obtain ⟨yk, yv⟩ := y
        dsimp only at hk hv
        subst hk
        obtain ⟨e, hn, h1, h2⟩ : ∃ e, es.toList = [e] ∧ keyIs (.inr k) e.key = true ∧ e.val = yv := by
          cases h : es.toList with
          | nil => rw [h] at hp; cases hp
          | cons a b =>
            rw [h] at hp
            cases hp with
            | cons g1 g2 g3 =>
              cases g3
              exact ⟨a, rfl, g1, g2⟩
        obtain ⟨as, q, hm⟩ := ih _ _ _ p hv
        rcases keyIs_shape h1 with ⟨i, t, z, _⟩ | ⟨x, t, z, hx⟩
        · cases z
        cases z
        refine ⟨_, .dict (kvs := [(.str k, d')]) ho hc hd (by rw [hn]; exact .cons (by show Reads _ e.key _ _; rw [hx]; exact .str k t) .nil) (by rw [hn]; exact .cons (by show Reads _ e.val _ _; rw [h2]; exact q) .nil), ?_⟩
        simp only [List.nil_append, List.append_nil, List.cons_append, List.mem_cons, not_or]
        exact ⟨fun z => by rw [z] at na; simp at na, hm⟩
/-- repr of such a value -/
def rReprV : List V → Hp → VK → Prop := fun xs H Q => ∃ (v : V) (F : Addr → Prop) (n : Nat) (d : PyData), xs = [v] ∧ Dv F H n v d ∧ n ≤ 6 ∧ Q (.str d.shown) H
theorem cr_reprV {k : Nat} (hgd : X.A.guards = some []) (hr : Room k X.A) (hS : SysD X.K) : CallR X (.builtin "repr") rReprV := by
  intro pins s σ H xs us Q I r h
  obtain ⟨v, F, n, d, rfl, hd, hn, q⟩ := h
  obtain ⟨h1, h2, h3⟩ := Dv.size n v d hd
  have hz : d.shown.length ≤ sizeLine := by
    refine Nat.le_trans h3 (Nat.le_trans (?_ : bd n ≤ bd 6) (by decide +kernel))
    have st : ∀ j, bd j ≤ bd (j + 1) := fun j => by show bd j ≤ 4 * bd j + 100; omega
    have mono : ∀ {a b : Nat}, a ≤ b → bd a ≤ bd b := fun {a b} hab => by
      induction hab with
      | refl => exact Nat.le_refl _
      | step _ ih => exact Nat.le_trans ih (st _)
    exact mono hn
  cases r with
  | cons r1 rr =>
    cases rr
    rcases Dv.flat hd with ⟨a, rfl⟩ | hl
    · obtain ⟨as, R, hm⟩ := Dv.reads I hS n _ _ _ hd r1
      cases r1
      have hu := hr.un
      have hz2 : X.A.units + (d.depth + 1) < cLine := Nat.lt_of_le_of_lt (by omega : X.A.units + (d.depth + 1) ≤ X.A.units + 16 * k + 200) hu
      exact repr_of_reads' R h1 (fun _ => hm) hgd hz2 (fun _ _ e => e) (fun h' u tk hk => ⟨.str d.shown, H, I.kept hk, ⟨u, rfl⟩, q⟩) hz
    · rcases hl with ⟨rfl, rfl⟩ | ⟨b, rfl, rfl⟩ | ⟨i, rfl, rfl, hi⟩ | ⟨x, rfl, rfl, hx⟩
      · cases r1
        exact PySem.P.repr_of_none ⟨.str _, H, I.tok _, ⟨_, rfl⟩, q⟩
      · cases r1
        cases b
        · exact PySem.P.repr_of_bool ⟨.str (PyData.shown (.bool false)), H, I.tok _, ⟨_, rfl⟩, q⟩
        · exact PySem.P.repr_of_bool ⟨.str (PyData.shown (.bool true)), H, I.tok _, ⟨_, rfl⟩, q⟩
      · obtain ⟨t, rfl⟩ := r1
        exact PySem.P.repr_of_int (Nat.lt_of_lt_of_le (log_lt (k := 400) (by omega) hi) (by omega)) ⟨.str (PyData.shown (.int i)), H, I.tok _, ⟨_, rfl⟩, q⟩
      · obtain ⟨t, rfl⟩ := r1
        exact PySem.P.repr_of_str ⟨.str (PyData.shown (.str x)), H, I.tok _, ⟨_, rfl⟩, q⟩ hz
theorem i_reprV {Q : VK} {v : V} {n : Nat} {d : PyData} (h : Dv F H n v d) (hn : n ≤ 6) (q : Q (.str d.shown) H) : rReprV [v] H Q := ⟨v, F, n, d, rfl, h, hn, q⟩
end
end My

/-! own layer, 12: own errors as values: made, asked for their kind, their field read -/
namespace My
open PySem PySem.Spec PyProof.Rows L2
/-- an error of the class at C that holds v stands at a -/
def ErrAt (H : Hp) (C a : Addr) (v : V) : Prop := ∃ d, H a = some (exo a C (some d)) ∧ H d = some (exd d [("value", v)])
theorem ErrAt.same {H H' : Hp} {C a : Addr} {v : V} (h : ErrAt H C a v) (S : Same H H') : ErrAt H' C a v := by
  obtain ⟨d, h1, h2⟩ := h
  exact ⟨d, S _ _ h1, S _ _ h2⟩
theorem exo_lst {e C : Addr} {d : Option Addr} {xs : List V} : exo e C d ≠ .lst xs := fun z => by
  have y : HO.ext _ = HO.lst xs := z
  cases y
theorem exd_lst {e : Addr} {fs : List (Str × V)} {xs : List V} : exd e fs ≠ .lst xs := fun z => by
  have y : HO.ext _ = HO.lst xs := z
  cases y
theorem ErrAt.but {H H' : Hp} {C a p : Addr} {v : V} {xs : List V} (h : ErrAt H C a v) (hp : H p = some (.lst xs)) (B : But p H H') : ErrAt H' C a v := by
  obtain ⟨d, h1, h2⟩ := h
  exact ⟨d, B _ _ (ne_of h1 hp exo_lst) h1, B _ _ (ne_of h2 hp exd_lst) h2⟩
/-- what the written part says of an own class of errors -/
structure EOk (K : PySem.W.Frag) (C : Addr) : Prop where
  o : OexC K C
  no : PySem.W.findIn K (.ref C) "value" = some none
  x : XfC K C
  e : ExcC K C
def MkEQ (C : Addr) (sp : Sp) (vs : List V) (H : Hp) (Q : VK) : Prop := vs.length ≤ 1000 ∧ ∀ a, H a = none → sp (.ref a :: vs) (upd H a (exo a C none)) (fun v H2 => v = .non ∧ Q (.ref a) H2) E0
def tMkE (C : Addr) (sp : Sp) (ta : TA) : TE := fun σ H Q => ta σ H fun vs H1 => MkEQ C sp vs H1 Q
def ErrVQ (K : PySem.W.Frag) (x : V) (H : Hp) (Q : VK) : Prop := ∃ (a C : Addr) (v : V), x = .ref a ∧ ErrAt H C a v ∧ EOk K C ∧ Q v H
def tErrV (K : PySem.W.Frag) (te : TE) : TE := fun σ H Q => te σ H fun x H1 => ErrVQ K x H1 Q
def rIsEr (K : PySem.W.Frag) : List V → Hp → VK → Prop := fun xs H Q => ∃ (a C : Addr) (v c : V) (cv : Value) (b : Bool), xs = [.ref a, c] ∧ ErrAt H C a v ∧ EOk K C ∧ (∀ u, RelV c u → u = cv) ∧ PySem.W.kitOne K (.ref C) cv = some b ∧ Q (.bl b) H
section
variable {X : Cx} {CX : CXT} {x : Str} {e : Expr} {es : List Expr} {C fI : Addr} {k : Nat} {fd : FuncData} {ps : List Str} {sp : Sp} {ta : TA} {te : TE} {p pos : Pos}
theorem pe_mkE (T : OexC X.K C) (iC : PySem.W.findIn X.K (.ref C) "__init__" = some (some (.ref fI))) (tI : PySem.W.typeIn X.K (.ref fI) = some (.type "function")) (gC : X.mg x = some (.ref C)) (F1 : FnOk X.prog X.w X.K X.mg X.base CX k fI fd ps sp) (hb : L2.Binds X.K fd ps []) (hr : Room (k + 1) X.A)
    (ha : PA X (e :: es) ta) (hx : Passes CX X E0 := by first | exact pass0 | exact passL) (hg : Gl X x := by rfl)
    (hdb : (x == ("__debug__" : Str)) = false := by decide) (he : starEach (e :: es) X.env = (false, eval e X.env) :: starEach es X.env := by rfl) (hpl : (backTo pos (starEach es X.env)).any (·.1) = false := by rfl) :
    PE X (.Call (.Name x p) (e :: es) [] pos) (tMkE C sp ta) := by
  obtain ⟨nm, q, N, bs, bm, sn, sub, ab, col, dd, k0, k1, k2, k3, k5, hC, hbm⟩ := T.cls
  refine ⟨fun pins s σ H Q I h => ?_⟩
  refine wpAny_Call_Name_kw (ld_glob I hg gC ?_ hdb)
  refine PySem.W.callWith_K (h₀ := X.base) I.ok.mod.kin T.kC (thn (ha.run pos pins s σ H _ I h) ?_) he hpl
  rintro us ⟨hp, g, dr, tk, os⟩ ⟨vs, H1, I1, r1, hz, q1⟩
  refine ⟨I1.kIn, ?_⟩
  have hsz := Nat.le_succ hp.objs.size
  have hq := q1 (hp.objs.size + 1) (I1.hok.fresh hsz)
  have kk : ∀ b o, hp.get? b = some o → ((hp.push (PySem.W.kdv_tup us)).push (PySem.HandSPX.excO C hp.objs.size)).get? b = some o := fun b o z =>
    Heap.get?_push_of_some _ (Heap.get?_push_of_some _ z)
  have I2 := I1.laid (t' := tk) (a := hp.objs.size + 1) (o := exo (hp.objs.size + 1) C none) kk hsz
    (exo_ok (by heap_get))
  have r2 := Paired.cons (F := RelV) (a := V.ref (hp.objs.size + 1)) (b := Value.ref (hp.objs.size + 1)) rfl r1
  have hl : (Value.ref (hp.objs.size + 1) :: us).length = ps.length := by
    rw [← Vals.length r2]
    exact F1.len _ _ _ _ hq
  have hl2 : (Value.ref (hp.objs.size + 1) :: us ++ ([] : List Value)).length = ps.length := by
    rw [List.append_nil]
    exact hl
  have hb2 := hb _ (Value.ref (hp.objs.size + 1) :: us) I2.kIn hl2
  rw [List.append_nil] at hb2
  have hus : us.length ≤ sizeLine := by
    rw [← Vals.length r1, sizeLine_eq]
    omega
  have run := F1.run _ X.stack _ _ ⟨Value.ref (hp.objs.size + 1) :: us, []⟩ (Value.ref (hp.objs.size + 1) :: us) _ _ E0
    (hr.make C us []) (I2.env0.make C us []) hb2 r2 hq
  have bm2 := fun Y => PySem.HandSPX.refsVE_contains Y bm hbm
  refine wpAny_call (PySem.HandSPX.call_own F.excBase_ValueError bm2 (I1.kIn _ _ hC) (PySem.W.looks_findIn I1.kIn iC) (fun self => PySem.W.bind_fn I1.kIn self tI) hus (codeAny_mono run ?_))
  intro r s' hq'
  cases r with
  | error er => exact hx pins σ _ _ er s' I2 hq'
  | ok fl =>
    cases fl with
    | ret u =>
      obtain ⟨v, H', J, rv, ev, q2⟩ := I2.after hq'
      subst ev
      exact ⟨rv, .ref (hp.objs.size + 1), H', J, rfl, q2⟩
    | _ => exact False.elim hq'
theorem pe_errv (he : PE X e te) (hb : attributeBase e "value" X.env (eval e X.env) = eval e X.env := by rfl) : PE X (.Attribute e "value" pos) (tErrV X.K te) := by
  refine ⟨fun pins s σ H Q I h => attr_of hb (thn (he.run pins s σ H _ I h) ?_)⟩
  rintro u s1 ⟨x, H1, I1, rx, a, C, v, ex, ⟨d, h1, h2⟩, T, q⟩
  subst ex
  obtain rfl : u = Value.ref a := rx
  obtain ⟨t1, ho⟩ := exo_at I1.hok h1
  obtain ⟨mA, hns, rel⟩ := exd_at I1.hok h2
  obtain ⟨od, hd, hl⟩ := lookIn_ns hns
  obtain ⟨u, hu, ru⟩ := RelO.some_of (v := v) (o := mA "value") (rel "value")
  have J : PySem.W.InstAt s1.heap a _ C (some od) := ⟨ho, rfl, rfl, hd⟩
  exact HandSPX.exc_get I1.kIn J T.x.ga T.x.gg T.x.exC (PySem.W.findObj_own T.x.hdC T.no rfl (by rw [hl, hu])) (handed_of ru) ⟨v, H1, I1.tok _, ru, q⟩
end
/-! ### isinstance -/
section
open PySem.W PySem.Calls
variable {prog : Program} {w : World} {A : Around} {E : Value → Shared → Prop} {s : Shared} {K : Frag} {x D : Addr} {ox : Obj} {od : Option Obj}
/-- e.__class__ of an error, its own dict or none -/
theorem er_class {Q : Option Value → Shared → Prop} (c : ExcC K D) (KX : K.In s.heap) (I : InstAt s.heap x ox D od) (h : Q (some (.ref D)) { s with toks := s.toks + 1 }) : wpAny (model prog w) A (getAttr? (.ref x) "__class__") Q E s := by
  obtain ⟨cd, hcd, _⟩ := any_some c.hd
  have found : findObj K D od "__class__" = some (.bind (.builtin "getset_descriptor.__get__") (.builtin "object.__class__")) := by
    unfold findObj
    rw [hcd, Option.bind_some, c.ha, Option.bind_some]
    simp [c.hn, c.ht]
  obtain ⟨hp, g, d, t, os⟩ := s
  have ty := I.type (M := model prog w)
  have fd := looks_find (M := model prog w) KX I found
  have isB : Looks (model prog w) hp (isInstance (.ref x) (.type "BaseException")) true := ty.andThen (looks_subIn KX c.hs)
  have n1 : (Value.builtin "BaseException.__getattribute__" == Value.builtin "object.__getattribute__") = false := by decide +kernel
  have n2 : (onTheHeap (Value.ref D) && Value.builtin "BaseException.__getattribute__" == Value.builtin "object.__getattribute__") = false := by rw [n1]; rfl
  unfold getAttr? getAttrBy? getAttrBy
  refine wpAny_bind (wpAny_mkText ?_)
  refine wpAny_bind (wpAny_attempt (wpAny_holding (wpAny_bind (ty.at ?_))))
  refine wpAny_bind ((looks_findIn KX c.hg).at ?_)
  show wpAny _ _ (ite ((onTheHeap (Value.ref D) && Value.builtin "BaseException.__getattribute__" == Value.builtin "object.__getattribute__") = true) _ _) _ _ _
  rw [n2, if_neg Bool.false_ne_true]
  unfold getAttrByItsOwn hookBefore
  refine wpAny_bind ?_
  rw [if_pos (show onTheHeap (Value.ref D) = true from rfl)]
  refine (looks_findIn KX c.hk).at ?_
  refine wpAny_bind (wpAny_attempt ?_)
  refine wpAny_holding ?_
  unfold callGetattribute
  rw [show (false && onTheHeap (Value.builtin "BaseException.__getattribute__")) = false from rfl, if_neg Bool.false_ne_true]
  unfold boundAndCalled
  rw [PySem.F.excAttr_ValueError.ga.bind (.ref x)]
  refine wpAny_bind (wpAny_pure (wpAny_call (codeAny_call_builtin PySem.F.excAttr_ValueError.ga.plain PySem.F.entry_bexc_ga ?_)))
  refine @check_slot (model prog w) _ _ ⟨hp, g, d, t + 1, os⟩ "BaseException.__getattribute__" "BaseException" "__getattribute__" (.ref x)
    [.str "__class__" t] [] _ (by decide +kernel) (by decide +kernel) isB (PySem.F.args_bexc_ga (.ref x) (.str "__class__" t)) ?_
  unfold Builtin.«object.__getattribute__»
  refine wpAny_bind (wpAny_of_eq (a := ((Value.ref x : Value), [Value.str "__class__" t])) (by first | rfl | (simp only [slotArgs]; rfl)) ?_)
  refine wpAny_bind (wpAny_pure ?_)
  refine wpAny_bind (ty.at (wpAny_bind (fd.at ?_)))
  refine wpAny_bind (wpAny_holding (wpAny_call (class_get (s := ⟨hp, g, d, t + 1, os⟩) (ox := ox) (od := od) KX I c.hm (wpAny_pure ?_))))
  show wpAny _ _ (handedOut (.ref D)) _ _ _
  rw [handedOut_of (v := .ref D) rfl]
  first
    | exact wpAny_pure (wpAny_bind (wpAny_pure (wpAny_pure h)))
    | exact wpAny_pure (wpAny_pure h)
    | exact wpAny_pure h
theorem er_kit (c : ExcC K D) : KitX K (.ref x) (.ref D) (fun h => InstAt h x ox D od) := by
  obtain ⟨cd, hcd, _⟩ := any_some c.hd
  obtain ⟨c', d', sl', ho⟩ : ∃ c' d' sl', K.lookup D = some ⟨c', d', .cls cd, sl'⟩ := by
    unfold clsIn at hcd
    split at hcd
    · rename_i a b e f g
      cases hcd
      exact ⟨_, _, _, g⟩
    · cases hcd
  refine ⟨fun _ _ _ I => I.type, fun _ _ KX _ => ?_, fun h tp dd its n sl KX htp => ?_, fun KX I q => er_class c KX I q⟩
  · intro A' Q' E' s' keep q
    unfold isType loadHead
    exact wpAny_bind (wpAny_loadPart (keep _ _ (KX _ _ ho)) (wpAny_pure q))
  · refine Bool.eq_false_iff.mpr fun q => ?_
    have e := Value.ref.inj (beq_iff_eq.mp q)
    subst e
    have z := (KX _ _ ho).symm.trans htp
    cases z
end
theorem call_isEr {X : Cx} : CallR X (.builtin "isinstance") (rIsEr X.K) := by
  intro pins s σ H xs us Q I r h
  obtain ⟨a, C, v, c, cv, b, rfl, ⟨d, h1, h2⟩, T, hcv, e, q⟩ := h
  obtain ⟨t1, ho⟩ := exo_at I.hok h1
  obtain ⟨mA, hns, _⟩ := exd_at I.hok h2
  obtain ⟨od, hd, _⟩ := lookIn_ns hns
  have J : PySem.W.InstAt s.heap a _ C (some od) := ⟨ho, rfl, rfl, hd⟩
  cases r with
  | cons rx rr =>
    cases rr with
    | cons rt rr =>
      cases rr
      cases rx
      have ec := hcv _ rt
      subst ec
      exact PySem.W.kia_one (er_kit T.e) I.kIn J e (fun z => nomatch z) fun tk => ⟨.bl b, H, I.kept (t' := tk) fun _ _ z => z, rfl, q⟩
/-! ### the steps -/
section
variable {K : PySem.W.Frag} {σ : L2.St} {H : Hp} {ta : TA} {te : TE} {Q : VK} {C a D : Addr} {sp : Sp} {v : V} {b : Bool}
theorem i_mkE0 (h : ta σ H fun vs H1 => MkEQ C sp vs H1 Q) : tMkE C sp ta σ H Q := h
theorem i_errv0 (h : te σ H fun x H1 => ErrVQ K x H1 Q) : tErrV K te σ H Q := h
theorem i_errv (h : ErrAt H C a v) (T : EOk K C) (q : Q v H) : ErrVQ K (.ref a) H Q := ⟨a, C, v, rfl, h, T, q⟩
theorem i_isE (h : ErrAt H C a v) (T : EOk K C) (e : PySem.W.kitOne K (.ref C) (.ref D) = some b) (q : Q (.bl b) H) : rIsEr K [.ref a, .ref D] H Q :=
  ⟨a, C, v, .ref D, .ref D, b, rfl, h, T, fun _ z => z, e, q⟩
theorem i_isEt {n : String} (h : ErrAt H C a v) (T : EOk K C) (e : PySem.W.kitOne K (.ref C) (.type n) = some b) (q : Q (.bl b) H) : rIsEr K [.ref a, .ty n] H Q :=
  ⟨a, C, v, .ty n, .type n, b, rfl, h, T, fun _ z => z, e, q⟩
/-- what the own __init__ promises -/
def spErrInit (K : PySem.W.Frag) : Sp := fun vs H Q _ => ∃ (a C : Addr) (v : V), vs = [.ref a, v] ∧ H a = some (exo a C none) ∧ EOk K C ∧ ∀ H' d, But a H H' → H d = none → H' a = some (exo a C (some d)) → H' d = some (exd d [("value", v)]) → Q .non H'
theorem i_mkE (T : EOk K C) (k : ∀ a H2, Same H H2 → H a = none → ErrAt H2 C a v → Q (.ref a) H2) : MkEQ C (spErrInit K) [v] H Q := by
  refine ⟨by show 1 ≤ 1000; omega, fun a ha => ⟨a, C, v, rfl, upd_same, T, fun H' d B _ e1 e2 => ⟨rfl, ?_⟩⟩⟩
  exact k a H' (fun b o z => B b o (ne_of_none z ha) (by rw [upd_ne (ne_of_none z ha)]; exact z)) ha ⟨d, e1, e2⟩
/-- what a raise of such an error asks -/
theorem i_mkO {QX : XK} {H : Hp} (T : EOk K C) (k : ∀ d H2, H d = none → Same H H2 → H2 d = some (.xd [("value", v)]) → QX (.ref C) (some d) H2) : ([v] : List V).length ≤ 1000 ∧ ∀ a, H a = none → spErrInit K (.ref a :: ([v] ++ [])) (upd H a (exo a C none))
    (fun u H2 => u = .non ∧ ∃ (d : Addr) (fs : List (Str × V)), H2 a = some (exo a C (some d)) ∧ H2 d = some (exd d fs) ∧ H d = none ∧ QX (.ref C) (some d) (upd (del H2 a) d (.xd fs))) (fun _ _ _ => False) := by
  refine ⟨by show 1 ≤ 1000; omega, fun a ha => ⟨a, C, v, rfl, upd_same, T, fun H' d B hd e1 e2 => ⟨rfl, d, _, e1, e2, ?_⟩⟩⟩
  have nd : d ≠ a := fun z => by rw [z, upd_same] at hd; cases hd
  rw [upd_ne nd] at hd
  refine ⟨hd, k d _ hd (fun b o z => ?_) upd_same⟩
  rw [upd_ne (ne_of_none z hd), del_ne (ne_of_none z ha)]
  exact B b o (ne_of_none z ha) (by rw [upd_ne (ne_of_none z ha)]; exact z)
end
end My

/-! own layer, 13: own errors, what the written part holds of them -/
namespace My
open PySem PySem.Spec PyProof.Rows L2
def exclsB (K : PySem.W.Frag) (C : Addr) : Bool := match K.lookup C with
  | some ⟨.type "type", _, .cls cd, sl⟩ => (match cd.mro, sl.toList with
    | .ref C' :: bm, [_, _, _, _, some (.builtin n), _] => decide (C' = C) && (decide (n = "ValueError.__new__") && (cd.hasDict && (!cd.hasDel && PySem.HandSPX.refsVE bm)))
    | _, _ => false)
  | _ => false
section
variable {K : PySem.W.Frag} {C M D : Addr}
theorem exclsB_ok (h : exclsB K C = true) : ∃ nm q N bs bm sn sub ab col dd k0 k1 k2 k3 k5, K.lookup C = some (excClassObj nm q C N bs bm true sn sub ab col dd k0 k1 k2 k3 k5 "ValueError.__new__") ∧ PySem.HandSPX.refsVE bm = true := by
  unfold exclsB at h
  split at h
  · rename_i dd cd sl hl
    split at h
    · rename_i C' bm k0 k1 k2 k3 n k5 hm hs
      obtain ⟨h1, h⟩ := He.ba h
      obtain ⟨h2, h⟩ := He.ba h
      obtain ⟨h3, h⟩ := He.ba h
      obtain ⟨h4, h5⟩ := He.ba h
      have f1 := of_decide_eq_true h1
      have f2 := of_decide_eq_true h2
      have f4 : cd.hasDel = false := by simpa using h4
      clear h1 h2 h4
      subst f1 f2
      obtain ⟨nm, bs, mro, ns, qn, hd, sn, sub, ab, col, del⟩ := cd
      dsimp only at hm h3 f4
      subst hm h3 f4
      obtain ⟨l⟩ := sl
      dsimp only at hs
      subst hs
      exact ⟨nm, qn, ns, bs, bm, sn, sub, ab, col, dd, k0, k1, k2, k3, k5, hl, h5⟩
    · cases h
  · cases h
def eokB (K : PySem.W.Frag) (C : Addr) : Bool := [exclsB K C,
  He.eqO (PySem.W.findIn K (.ref C) "__setattr__") (some (some (.builtin "object.__setattr__"))),
  decide (PySem.W.subIn K (.ref C) (.type "BaseException") = some true),
  decide (PySem.W.typeIn K (.ref C) = some (.type "type")),
  PySem.W.keepIn K (.ref C),
  He.eqO (PySem.W.findIn K (.ref C) "value") (some none),
  He.eqO (PySem.W.findIn K (.ref C) "__getattribute__") (some (some (.builtin "BaseException.__getattribute__"))),
  He.eqO (PySem.W.findIn K (.ref C) "__getattr__") (some none),
  PySem.W.hasDictIn K C,
  He.eqO (PySem.W.findIn K (.ref C) "__class__") (some (some (.builtin "object.__class__"))),
  decide (PySem.W.mroIn K C (.type "object") = some true)].all id
/-- asked once for all classes -/
def clsB (K : PySem.W.Frag) : Bool := He.eqO (PySem.W.specialIn K (.builtin "object.__class__") "__get__") (some (some (.builtin "getset_descriptor.__get__"))) && decide (PySem.W.takesIn K (.builtin "object.__class__") = some true)
theorem eokB_ok (h : eokB K C = true) (g : clsB K = true) : EOk K C := by
  obtain ⟨g1, g2⟩ := He.ba g
  have g1 := He.eqO_ok g1
  have g2 := of_decide_eq_true g2
  have a := List.all_eq_true.mp h
  have h0 : exclsB K C = true := a _ (.head _)
  have h1 := He.eqO_ok (a _ (.tail _ (.head _)))
  have h2 := of_decide_eq_true (a _ (.tail _ (.tail _ (.head _))))
  have h3 := of_decide_eq_true (a _ (.tail _ (.tail _ (.tail _ (.head _)))))
  have h4 : PySem.W.keepIn K (.ref C) = true := a _ (.tail _ (.tail _ (.tail _ (.tail _ (.head _)))))
  have h5 := He.eqO_ok (a _ (.tail _ (.tail _ (.tail _ (.tail _ (.tail _ (.head _)))))))
  have h6 := He.eqO_ok (a _ (.tail _ (.tail _ (.tail _ (.tail _ (.tail _ (.tail _ (.head _))))))))
  have h7 := He.eqO_ok (a _ (.tail _ (.tail _ (.tail _ (.tail _ (.tail _ (.tail _ (.tail _ (.head _)))))))))
  have h8 : PySem.W.hasDictIn K C = true := a _ (.tail _ (.tail _ (.tail _ (.tail _ (.tail _ (.tail _ (.tail _ (.tail _ (.head _)))))))))
  have h9 := He.eqO_ok (a _ (.tail _ (.tail _ (.tail _ (.tail _ (.tail _ (.tail _ (.tail _ (.tail _ (.tail _ (.head _)))))))))))
  have h10 := of_decide_eq_true (a _ (.tail _ (.tail _ (.tail _ (.tail _ (.tail _ (.tail _ (.tail _ (.tail _ (.tail _ (.tail _ (.head _))))))))))))
  exact ⟨⟨exclsB_ok h0, h1, h2, h3, h4⟩, h5, ⟨h6, h7, h2, h8⟩, ⟨h6, h7, h2, h8, h9, g1, g2, h10⟩⟩
end
theorem eok_all {K : PySem.W.Frag} {l : List Str} (h : (l.all (fun c => eokB K (He.ga K c)) && clsB K) = true) : ∀ c ∈ l, EOk K (He.ga K c) := fun c hc => by
  obtain ⟨h1, h2⟩ := He.ba h
  exact eokB_ok (List.all_eq_true.mp h1 c hc) h2
section
variable {K : PySem.W.Frag} {C M D : Addr}
/-- the classes that a class of errors stands below -/
def mroB (K : PySem.W.Frag) (C M : Addr) : Bool := match PySem.W.clsIn K C with
  | some cd => decide (cd.mro = .ref C :: .ref M :: PySem.HandSPX.veTail)
  | none => false
def mroB0 (K : PySem.W.Frag) (M : Addr) : Bool := match PySem.W.clsIn K M with
  | some cd => decide (cd.mro = .ref M :: PySem.HandSPX.veTail)
  | none => false
theorem mro_in (h : mroB K C M = true) (v : Value) : PySem.W.mroIn K C v = some ((Value.ref C :: .ref M :: PySem.HandSPX.veTail).contains v) := by
  unfold mroB at h
  unfold PySem.W.mroIn
  split at h
  · rename_i cd e
    rw [e, Option.bind_some, of_decide_eq_true h]
    rfl
  · cases h
theorem mro_in0 (h : mroB0 K M = true) (v : Value) : PySem.W.mroIn K M v = some ((Value.ref M :: PySem.HandSPX.veTail).contains v) := by
  unfold mroB0 at h
  unfold PySem.W.mroIn
  split at h
  · rename_i cd e
    rw [e, Option.bind_some, of_decide_eq_true h]
    rfl
  · cases h
theorem ve_ref : PySem.HandSPX.veTail.contains (Value.ref D) = false := rfl
theorem ref_beq {a b : Addr} : (Value.ref a == Value.ref b) = decide (a = b) := by
  by_cases e : a = b
  · subst e
    rw [beq_self_eq_true, decide_eq_true rfl]
  · rw [decide_eq_false e]
    exact Bool.eq_false_iff.mpr fun z => e (Value.ref.inj (beq_iff_eq.mp z))
theorem kit_cls1 (d : EOk K D) {b : Bool} (h : PySem.W.mroIn K C (.ref D) = some b) (hb : C = D → b = true) : PySem.W.kitOne K (.ref C) (.ref D) = some b := by
  unfold PySem.W.kitOne
  by_cases e : C = D
  · subst e
    rw [if_pos (beq_self_eq_true _), hb rfl]
  · rw [if_neg (by rw [ref_beq, decide_eq_false e]; exact Bool.false_ne_true)]
    obtain ⟨cd, hc, _⟩ := PySem.W.any_some d.e.hd
    show (if ((PySem.W.clsIn K D).isSome && PySem.W.typeIn K (.ref D) == some (.type "type")) = true then PySem.W.subIn K (.ref C) (.ref D) else none) = _
    rw [hc, d.o.tyC, if_pos (by rfl)]
    exact h
/-- isinstance of an error of the class C below M -/
theorem kit_er (d : EOk K D) (h : mroB K C M = true) (hM : D ≠ M) : PySem.W.kitOne K (.ref C) (.ref D) = some (decide (D = C)) :=
  kit_cls1 d (by rw [mro_in h, List.contains_cons, List.contains_cons, ref_beq, ref_beq, decide_eq_false hM, ve_ref, Bool.or_false, Bool.or_false]) fun e => decide_eq_true e.symm
theorem kit_erM (d : EOk K M) (h : mroB K C M = true) : PySem.W.kitOne K (.ref C) (.ref M) = some true :=
  kit_cls1 d (by rw [mro_in h, List.contains_cons, List.contains_cons, ref_beq, ref_beq, decide_eq_true rfl, Bool.true_or, Bool.or_true]) fun _ => rfl
theorem kit_er0 (d : EOk K D) (h : mroB0 K M = true) (hM : D ≠ M) : PySem.W.kitOne K (.ref M) (.ref D) = some false :=
  kit_cls1 d (by rw [mro_in0 h, List.contains_cons, ref_beq, decide_eq_false hM, ve_ref, Bool.or_false]) fun e => absurd e.symm hM
theorem kit_V (h : mroB K C M = true) : PySem.W.kitOne K (.ref C) (.type "ValueError") = some true := by
  show PySem.W.mroIn K C (.type "ValueError") = some true
  rw [mro_in h]
  rfl
theorem kit_V0 (h : mroB0 K M = true) : PySem.W.kitOne K (.ref M) (.type "ValueError") = some true := by
  show PySem.W.mroIn K M (.type "ValueError") = some true
  rw [mro_in0 h]
  rfl
/-- the dict of the modules stands where nothing of ours does -/
def sysB (K : PySem.W.Frag) : Bool := match K.lookup sysModules with
  | some ⟨_, _, .dict _ _, _⟩ => true
  | _ => false
theorem sysB_ok (h : sysB K = true) : SysD K := by
  unfold sysB at h
  split at h
  · rename_i e
    exact ⟨_, _, _, _, _, e⟩
  · cases h
end
/-! ### a loop over enumerate -/
section
variable {K : PySem.W.Frag} {a : Addr} {xs : List V} {g : TG} {tb : TS} {D : Ends} {σ : L2.St} {H : Hp} {ta : TA} {R : It → Hp → Prop}
def WlkE (K : PySem.W.Frag) (vs : List V) (H : Hp) (R : It → Hp → Prop) : Prop := ∃ a xs, vs = [.ref a] ∧ SqL K H a xs ∧ R (Ite K a) H
theorem i_we (h : ta σ H fun vs H1 => WlkE K vs H1 R) : iEnum K ta σ H R := h
theorem i_wev (hl : SqL K H a xs) (h : R (Ite K a) H) : WlkE K [.ref a] H R := ⟨a, xs, rfl, hl, h⟩
theorem forq_enum (Pv : Nat → L2.St → Hp → Prop) (h0 : Pv 0 σ H) (hl : ∀ i σ H, i ≤ xs.length → Pv i σ H → SqL K H a xs)
    (hs : ∀ i x σ H T H', xs[i]? = some x → Pv i σ H → Same H H' → H T = none → H' T = some (.tup [.int (i : Nat), x]) → g (.ref T) σ H' fun σ2 H2 => tb { D with nx := Pv (i + 1), ct := Pv (i + 1), bk := D.nx } σ2 H2) (hd : ∀ σ H, Pv xs.length σ H → D.nx σ H) : ForQ (Ite K a) g tb D σ H := by
  refine for_it (G := fun H => SqL K H a xs) walk_enum Pv h0 hl ?_ hd
  rintro i x σ H H' hi hP ⟨T, y, z, rfl, hT, rfl, e1, e2⟩
  cases e1
  exact hs i z σ H T _ e2 hP (fun b u e => by rw [upd_ne (ne_of_none e hT)]; exact e) hT upd_same
end
end My

/-! own layer, 26: the end of a law that makes lambdas and writes values out -/
namespace My
open PySem PySem.Spec PyProof.Rows L2
/-- an empty table of code objects -/
abbrev tabO : Obj := { cls := .none, data := .fields #[] }
section
variable {P : Program} {w : World} {K : PySem.W.Frag} {mg mb : Str → Option Value} {k : Nat} {fa a : Addr} {cs : List (Addr × Addr)} {fd : FuncData} {x : Str} {sp : Sp} {s₁ : Shared} {vs : List Value} {ns : List Int}
theorem callT_core (KX : K.In s₁.heap) (hns : s₁.heap.Ns mainGlobals mg) (hb : s₁.heap.Ns builtinsNs mb) (hbb : ∀ x : Str, x ≠ "__name__" → mb x = bootBuiltins x) (hlim : s₁.heap.NoLimit) (hg : s₁.gens = #[]) (ht : ∀ p ∈ cs, s₁.heap.get? p.2 = some tabO) (nt : ∀ p ∈ cs, K.lookup p.2 = none) (hc : ∀ p ∈ cs, PySem.W.CodeHd s₁.heap p.1 p.2)
    (hbm : ∃ (bm : Addr) (ob : Obj), mg "__builtins__" = some (.ref bm) ∧ bm ≠ builtinsNs ∧ s₁.heap.get? bm = some ob ∧ ob.cls = .type "module" ∧ ob.dict = some builtinsNs ∧ ob.data = .plain) (ha : s₁.heap.get? a = some (scriptO vs)) (hr : Room k callerA)
    (F : ∀ base : Heap, K.In base → base.Ns mainGlobals mg → (∀ p ∈ cs, LamX.TabB base mg p.1 p.2) → FnG P w K mg base CX0 k fa fd [x] sp) (hbind : ∀ (s : Shared) (u : Value), BindsTo s fd ⟨[u], []⟩ [(x, u)]) {H : Hp} (hO : ∀ b, H b = none ∨ (∃ p ∈ cs, b = p.2) ∨ ∃ o xs, H b = some (.frz o xs)) (hT : ∀ p ∈ cs, H p.2 = some (.tbl #[]))
    (hq : sp [.ref a] H (fun v _ => v = .bl true) E0) (hok : HOk P w H s₁.heap) (hA : ∀ b, H b ≠ none → b = a ∨ ∃ p ∈ cs, b = p.2) (hK : H a ≠ none → K.lookup a = none) :
    codeAny (model P w) callerA (Code.call (.ref fa) ⟨[.ref a], []⟩) (fun r s' => r = Except.ok (Flow.ret (.bool true)) ∧ OldK s₁.heap s'.heap ∧ s'.os = s₁.os ∧ AllBare s'.gens) s₁ := by
  have at_ : ∀ {b : Addr} {o : Obj}, s₁.heap.get? b = some o → H b = none → (hidT s₁.heap H).get? b = some o := fun e n => hidT_get e n
  have other : ∀ {b : Addr} {o : Obj}, s₁.heap.get? b = some o → (∀ v n, o.data ≠ .seq v n) → o.data ≠ .fields #[] → H b = none := by
    intro b o e h1 h2
    cases q : H b with
    | none => rfl
    | some u =>
      exfalso
      rcases hA b (by rw [q]; intro z; cases z) with rfl | ⟨p, hp, rfl⟩
      · rw [ha] at e
        cases e
        exact h1 _ _ rfl
      · rw [ht p hp] at e
        cases e
        exact h2 rfl
  have dicts : ∀ {b : Addr} {m : Str → Option Value}, s₁.heap.Ns b m → (hidT s₁.heap H).Ns b m := by
    rintro b m ⟨o, es, ep, e, d, r⟩
    exact ⟨o, es, ep, at_ e (other e (fun v n z => by rw [d] at z; cases z) (fun z => by rw [d] at z; cases z)), d, r⟩
  have written : K.In (hidT s₁.heap H) := by
    intro b o e
    refine at_ (KX b o e) ?_
    cases q : H b with
    | none => rfl
    | some u =>
      exfalso
      have hn : H b ≠ none := by rw [q]; intro z; cases z
      rcases hA b hn with z | ⟨p, hp, z⟩
      · rw [z] at hn e
        rw [hK hn] at e
        cases e
      · rw [z, nt p hp] at e
        cases e
  have mod : L2.Mod K mg (hidT s₁.heap H) := ⟨written, dicts hns, ⟨mb, dicts hb, hbb⟩, by obtain ⟨mc, h1, h2⟩ := hlim; exact ⟨mc, dicts h1, h2⟩⟩
  have table : ∀ p ∈ cs, LamX.TabB (hidT s₁.heap H) mg p.1 p.2 := by
    intro p hp
    have notG : p.2 ≠ mainGlobals := fun z => by
      obtain ⟨o, es, ep, e, d, _⟩ := hns
      rw [← z, ht p hp] at e
      cases e
      cases d
    refine ⟨?_, ?_, Ne.symm notG⟩
    · obtain ⟨o, us, file, tf, flags, tg, inF, text, tt, e1, r1, r2, r3, r⟩ := hc p hp
      exact ⟨o, us, file, tf, flags, tg, inF, text, tt, at_ e1 (other e1 (fun v n z => by rw [r2] at z; cases z) (fun z => by
        rw [r2] at z
        cases z
        cases r3)), r1, r2, r3, r⟩
    · obtain ⟨bm, ob, b1, b2, b3, b4, b5, b6⟩ := hbm
      refine ⟨bm, ob, b1, b2, fun z => ?_, fun z => ?_, at_ b3 (other b3 (fun v n z => by rw [b6] at z; cases z) (fun z => by rw [b6] at z; cases z)), b4, b5, b6⟩
      · obtain ⟨o, es, ep, e, d, _⟩ := hns
        rw [← z, b3] at e
        cases e
        rw [b6] at d
        cases d
      · rw [z, ht p hp] at b3
        cases b3
        cases b6
  have e0 : Env0 P w K mg (hidT s₁.heap H) callerA [] s₁ H := ⟨rfl, mod, fun b o e => of_hidT e, Nat.le_of_eq (hidT_size _ _), trivial, (fun b z => by cases z), hok, AllBare.of_eq hg⟩
  refine codeAny_mono ((F _ written (dicts hns) table).run callerA [] s₁ H ⟨[.ref a], []⟩ [.ref a] [.ref a] (fun v _ => v = .bl true) E0 rfl hr e0 (hbind s₁ (.ref a)) (.cons rfl .nil) hq) fun r s' h => ?_
  cases r with
  | error e => exact False.elim h
  | ok fl =>
    cases fl with
    | ret u =>
      obtain ⟨v, H', os, bare, un, hok', r', q⟩ := h
      subst q
      cases r'
      have kept : ∀ b o, (¬ ∃ p ∈ cs, b = p.2) → s₁.heap.get? b = some o → s'.heap.get? b = some o := by
        intro b o n e
        cases h : H b with
        | none => exact un.keep b o e h (fun z => by cases z) (fun z => by cases z)
        | some u =>
          rcases hO b with z | z | ⟨ob, xs, z⟩
          · rw [h] at z
            cases z
          · exact absurd z n
          · have h1 := (hok b _ z).1
            have h2 := (hok' b _ (un.frzs _ _ _ z)).1
            rw [e] at h1
            cases h1
            exact h2
      have grown : ∀ p ∈ cs, ∃ more : Array Value, s'.heap.get? p.2 = some { cls := .none, data := .fields (#[] ++ more) } := fun p hp => by
        obtain ⟨more, z⟩ := un.tbls p.2 #[] (hT p hp)
        exact ⟨more, hok' p.2 _ z⟩
      refine ⟨rfl, ⟨fun b o e => ?_, fun b o e => ?_⟩, os, bare⟩
      · by_cases n : ∃ p ∈ cs, b = p.2
        · obtain ⟨p, hp, n⟩ := n
          rw [n] at e ⊢
          rw [ht p hp] at e
          cases e
          obtain ⟨more, gr⟩ := grown p hp
          exact .inr (.inl ⟨((hc p hp).tab (ht p hp)).isCodeTable, rfl, #[], more, rfl, gr⟩)
        · exact .inl (kept b o n e)
      · by_cases n : ∃ p ∈ cs, b = p.2
        · obtain ⟨p, hp, n⟩ := n
          obtain ⟨more, gr⟩ := grown p hp
          rw [n]
          exact ⟨_, gr⟩
        · exact ⟨o, kept b o n e⟩
    | _ => exact False.elim h
theorem law_callT (KX : K.In s₁.heap) (hns : s₁.heap.Ns mainGlobals mg) (hb : s₁.heap.Ns builtinsNs mb) (hbb : ∀ x : Str, x ≠ "__name__" → mb x = bootBuiltins x) (hlim : s₁.heap.NoLimit) (hg : s₁.gens = #[]) (ht : ∀ p ∈ cs, s₁.heap.get? p.2 = some tabO) (nt : ∀ p ∈ cs, K.lookup p.2 = none) (hc : ∀ p ∈ cs, PySem.W.CodeHd s₁.heap p.1 p.2)
    (hbm : ∃ (bm : Addr) (ob : Obj), mg "__builtins__" = some (.ref bm) ∧ bm ≠ builtinsNs ∧ s₁.heap.get? bm = some ob ∧ ob.cls = .type "module" ∧ ob.dict = some builtinsNs ∧ ob.data = .plain) (ha : s₁.heap.get? a = some (scriptO vs)) (hr : Room k callerA)
    (F : ∀ base : Heap, K.In base → base.Ns mainGlobals mg → (∀ p ∈ cs, LamX.TabB base mg p.1 p.2) → FnG P w K mg base CX0 k fa fd [x] sp) (hbind : ∀ (s : Shared) (u : Value), BindsTo s fd ⟨[u], []⟩ [(x, u)]) (hi : IntsAre vs ns) (hl : ns.length ≤ sizeLine)
    (hsp : ∀ H : Hp, (∀ p ∈ cs, H p.2 = some (.tbl #[])) → SqL K H a (ns.map V.int) → sp [.ref a] H (fun v _ => v = .bl true) E0) :
    codeAny (model P w) callerA (Code.call (.ref fa) ⟨[.ref a], []⟩) (fun r s' => r = Except.ok (Flow.ret (.bool true)) ∧ OldK s₁.heap s'.heap ∧ s'.os = s₁.os ∧ AllBare s'.gens) s₁ := by
  classical
  have rv := vals_ints hi
  have lenV := IntsAre.length hi
  have apart : ¬ ∃ p ∈ cs, a = p.2 := fun ⟨p, hp, z⟩ => by
    have q := ht p hp
    rw [← z, ha] at q
    cases q
  let T : Hp := fun b => if ∃ p ∈ cs, b = p.2 then some (.tbl #[]) else none
  have Ty : ∀ b, (∃ p ∈ cs, b = p.2) → T b = some (.tbl #[]) := fun b h => if_pos h
  have Tn : ∀ b, (¬ ∃ p ∈ cs, b = p.2) → T b = none := fun b h => if_neg h
  cases h : K.lookup a with
  | none =>
    have Ha := upd_same (H := T) (a := a) (o := HO.frz (scriptO vs) (.lst (ns.map V.int)))
    have Hb : ∀ b, b ≠ a → upd T a (HO.frz (scriptO vs) (.lst (ns.map V.int))) b = T b := fun b n => upd_ne n
    generalize upd T a (HO.frz (scriptO vs) (.lst (ns.map V.int))) = H at Ha Hb
    have Ht : ∀ p ∈ cs, H p.2 = some (.tbl #[]) := fun p hp => by
      rw [Hb _ (fun z => apart ⟨p, hp, z.symm⟩)]
      exact Ty _ ⟨p, hp, rfl⟩
    refine callT_core KX hns hb hbb hlim hg ht nt hc hbm ha hr F hbind (H := H) (fun b => ?_) Ht (hsp H Ht (.inl (.inr ⟨_, Ha⟩))) (fun b u z => ?_) (fun b z => ?_) fun _ => h
    · by_cases h1 : b = a
      · exact .inr (.inr ⟨_, _, by rw [h1]; exact Ha⟩)
      · by_cases h2 : ∃ p ∈ cs, b = p.2
        · exact .inr (.inl h2)
        · exact .inl (by rw [Hb b h1]; exact Tn b h2)
    · by_cases h1 : b = a
      · rw [h1, Ha] at z
        cases z
        rw [h1]
        exact ⟨ha, by rw [List.length_map]; exact hl, vs, 0, rv, ha⟩
      · rw [Hb b h1] at z
        by_cases h2 : ∃ p ∈ cs, b = p.2
        · rw [Ty b h2] at z
          cases z
          obtain ⟨p, hp, e⟩ := h2
          rw [e]
          exact ht p hp
        · rw [Tn b h2] at z
          cases z
    · by_cases h1 : b = a
      · exact .inl h1
      · by_cases h2 : ∃ p ∈ cs, b = p.2
        · exact .inr h2
        · exact absurd ((Hb b h1).trans (Tn b h2)) z
  | some o =>
    have e := KX a o h
    rw [ha] at e
    cases e
    have Ht : ∀ p ∈ cs, T p.2 = some (.tbl #[]) := fun p hp => Ty _ ⟨p, hp, rfl⟩
    refine callT_core KX hns hb hbb hlim hg ht nt hc hbm ha hr F hbind (H := T) (fun b => ?_) Ht (hsp T Ht (.inr ⟨_, vs.toArray, 0, h, rfl, rfl, rfl, ?_, rv⟩)) (fun b u z => ?_) (fun b z => ?_) fun z => absurd (Tn a apart) z
    · by_cases h2 : ∃ p ∈ cs, b = p.2
      · exact .inr (.inl h2)
      · exact .inl (Tn b h2)
    · rw [List.size_toArray, lenV]
      exact hl
    · by_cases h2 : ∃ p ∈ cs, b = p.2
      · rw [Ty b h2] at z
        cases z
        obtain ⟨p, hp, e⟩ := h2
        rw [e]
        exact ht p hp
      · rw [Tn b h2] at z
        cases z
    · by_cases h2 : ∃ p ∈ cs, b = p.2
      · exact .inr h2
      · exact absurd (Tn b h2) z
end
theorem walk_ofT {l : PySem.W.OpenLaw} {n k : Nat} {q : Program} {loose : List Str} {XP : (Str → Option Value) → Heap → Prop} {YP : World → Heap → Prop} {d : DefRec} {x : Str} (hn : l.most = some n) (hn2 : n ≤ sizeLine) (hdf : d.params.defaults = []) (hr : Room k callerA)
    (F : ∀ (w : World) (mg : Str → Option Value) (fa : Addr) (h : Heap), YP w h → h.Ns mainGlobals mg → mg d.name = some (.ref fa) → ∃ (K : PySem.W.Frag) (fd : FuncData) (sp : Sp) (cs : List (Addr × Addr)), K.In h ∧ (∀ p ∈ cs, h.get? p.2 = some tabO) ∧ (∀ p ∈ cs, K.lookup p.2 = none) ∧ (∀ p ∈ cs, PySem.W.CodeHd h p.1 p.2) ∧ (∀ (s : Shared) (u : Value), BindsTo s fd ⟨[u], []⟩ [(x, u)]) ∧
      (∀ (H : Hp) (a : Addr) (ns : List Int), ns.length ≤ n → (∀ p ∈ cs, H p.2 = some (.tbl #[])) → SqL K H a (ns.map V.int) → sp [.ref a] H (fun v _ => v = .bl true) E0) ∧ ∀ base : Heap, K.In base → base.Ns mainGlobals mg → (∀ p ∈ cs, LamX.TabB base mg p.1 p.2) → FnG l.prog w K mg base CX0 k fa fd [x] sp) :
    PySem.W.WalkO q loose XP YP l.row.toRowW d [] fun f vs => call f vs := by
  refine Att.attach_call hn hdf fun w s₀ s₁ mg mb fa o pm cd doc a vs ns G Y ho hd hcd hmg hobj hints hlen hg => ?_
  obtain ⟨K, fd, sp, cs, KX, ht, nt, hc, hb, hsp, hF⟩ := F w mg fa s₁.heap Y G.T.g hmg
  exact law_callT KX G.T.g G.T.b G.T.builtins G.T.nolimit hg ht nt hc G.T.bmain hobj hr hF hb hints (Nat.le_trans hlen hn2) fun H hT hS => hsp H a ns hlen hT hS
/-- the code objects and tables of these defs -/
def csOf (K : PySem.W.Frag) (tf : List He.Defn) : List (Addr × Addr) := tf.map (He.cT K)
theorem cs_all {K : PySem.W.Frag} {tf : List He.Defn} {Pr : Addr × Addr → Prop} (h : ∀ p ∈ tf, Pr (He.cT K p)) : ∀ p ∈ csOf K tf, Pr p := fun p hp => by
  obtain ⟨d, hd, rfl⟩ := List.mem_map.mp hp
  exact h d hd
/-! ### what the head tells: also of the tables -/
structure SayT (ex : PySem.W.Frag → Bool) (ds : List Df) (tf : List He.Defn) (h : Heap) (K : PySem.W.Frag) : Prop where
  c : obsK ex ds K = valK ds
  hd : ∀ p ∈ tf, PySem.W.codeHdIn K (He.cT K p).1 (He.cT K p).2 = true
  out : ∀ p ∈ tf, K.lookup (He.cT K p).2 = none
  empty : ∀ p ∈ tf, h.get? (He.cT K p).2 = some tabO
abbrev HT : Type := HV × Bool
def obsT (n : Nat) (ex : PySem.W.Frag → Bool) (ds : List Df) (tf : List He.Defn) (g : Addr → Option Obj) : HT := (obsK ex ds (frK n g), He.tabsB g tf (frK n g))
def hookT (n : Nat) (ex : PySem.W.Frag → Bool) (ds : List Df) (tf : List He.Defn) : PySem.W.Hook where
  α := HT
  obs s := obsT n ex ds tf s.heap.get?
  val _ := (valK ds, true)
  says _ h := ∃ K : PySem.W.Frag, K.In h ∧ SayT ex ds tf h K
  of _ s e := by
    have e1 := congrArg Prod.fst e
    have e2 : He.tabsB s.heap.get? tf (frK n s.heap.get?) = true := congrArg Prod.snd e
    have key : ∀ p ∈ tf, PySem.W.codeHdIn (frK n s.heap.get?) (He.cT (frK n s.heap.get?) p).1 (He.cT (frK n s.heap.get?) p).2 = true ∧ ∃ o, s.heap.get? (He.cT (frK n s.heap.get?) p).2 = some o ∧ He.emptyTab o = true := by
      intro p hp
      obtain ⟨h1, h2⟩ := He.ba (List.all_eq_true.mp e2 p hp)
      refine ⟨h1, ?_⟩
      split at h2
      · rename_i o q
        exact ⟨o, q, h2⟩
      · cases h2
    refine ⟨frK n s.heap.get?, He.frT_in, e1, fun p hp => (key p hp).1, fun p hp => ?_, fun p hp => ?_⟩
    · obtain ⟨_, o, q, z⟩ := key p hp
      exact He.frT_none q z
    · obtain ⟨_, o, q, z⟩ := key p hp
      rw [q, He.emptyTab_eq z]
  keeps _ _ _ := fun ⟨K, i, c⟩ k => ⟨K, fun a o e => k a o (i a o e), ⟨c.c, c.hd, c.out, fun p hp => k _ _ (c.empty p hp)⟩⟩
def obTT (n : Nat) (ex : PySem.W.Frag → Bool) (ds : List Df) (tf : List He.Defn) (s : PySem.W.SharedT) : HT := obsT n ex ds tf (HandSHeadRun.getT s)
theorem obTT_eq {n : Nat} {ex : PySem.W.Frag → Bool} {ds : List Df} {tf : List He.Defn} (s : PySem.W.SharedT) : obTT n ex ds tf s = (hookT n ex ds tf).obs s.abs := by
  unfold obTT
  rw [funext (HandSHeadRun.getT_eq s)]
  rfl
end My

/-! own layer: the run of the top: the places of its objects told beforehand, its defs asked in parts -/
namespace My
open PySem PySem.Spec PyProof.Rows L2
/-- the objects at told places -/
def frA (as : List Addr) (g : Addr → Option Obj) : PySem.W.Frag := He.frT g as
def hookA (as : List Addr) (ex : PySem.W.Frag → Bool) (ds : List Df) : PySem.W.Hook where
  α := HV
  obs s := obsK ex ds (frA as s.heap.get?)
  val _ := valK ds
  says _ h := ∃ K : PySem.W.Frag, K.In h ∧ obsK ex ds K = valK ds
  of _ s e := ⟨_, He.frT_in, e⟩
  keeps _ _ _ := fun ⟨K, i, c⟩ k => ⟨K, fun a o e => k a o (i a o e), c⟩
def obA (as : List Addr) (ex : PySem.W.Frag → Bool) (ds : List Df) (s : PySem.W.SharedT) : HV := obsK ex ds (frA as (HandSHeadRun.getT s))
theorem obA_eq {as : List Addr} {ex : PySem.W.Frag → Bool} {ds : List Df} (s : PySem.W.SharedT) : obA as ex ds s = (hookA as ex ds).obs s.abs := by
  unfold obA
  rw [funext (HandSHeadRun.getT_eq s)]
  rfl
def hookAT (as : List Addr) (ex : PySem.W.Frag → Bool) (ds : List Df) (tf : List He.Defn) : PySem.W.Hook where
  α := HT
  obs s := (obsK ex ds (frA as s.heap.get?), He.tabsB s.heap.get? tf (frA as s.heap.get?))
  val _ := (valK ds, true)
  says _ h := ∃ K : PySem.W.Frag, K.In h ∧ SayT ex ds tf h K
  of _ s e := by
    have e1 := congrArg Prod.fst e
    have e2 : He.tabsB s.heap.get? tf (frA as s.heap.get?) = true := congrArg Prod.snd e
    have key : ∀ p ∈ tf, PySem.W.codeHdIn (frA as s.heap.get?) (He.cT (frA as s.heap.get?) p).1 (He.cT (frA as s.heap.get?) p).2 = true ∧ ∃ o, s.heap.get? (He.cT (frA as s.heap.get?) p).2 = some o ∧ He.emptyTab o = true := by
      intro p hp
      obtain ⟨h1, h2⟩ := He.ba (List.all_eq_true.mp e2 p hp)
      refine ⟨h1, ?_⟩
      split at h2
      · rename_i o q
        exact ⟨o, q, h2⟩
      · cases h2
    refine ⟨frA as s.heap.get?, He.frT_in, e1, fun p hp => (key p hp).1, fun p hp => ?_, fun p hp => ?_⟩
    · obtain ⟨_, o, q, z⟩ := key p hp
      exact He.frT_none q z
    · obtain ⟨_, o, q, z⟩ := key p hp
      rw [q, He.emptyTab_eq z]
  keeps _ _ _ := fun ⟨K, i, c⟩ k => ⟨K, fun a o e => k a o (i a o e), ⟨c.c, c.hd, c.out, fun p hp => k _ _ (c.empty p hp)⟩⟩
def obAT (as : List Addr) (ex : PySem.W.Frag → Bool) (ds : List Df) (tf : List He.Defn) (s : PySem.W.SharedT) : HT := (obsK ex ds (frA as (HandSHeadRun.getT s)), He.tabsB (HandSHeadRun.getT s) tf (frA as (HandSHeadRun.getT s)))
theorem obAT_eq {as : List Addr} {ex : PySem.W.Frag → Bool} {ds : List Df} {tf : List He.Defn} (s : PySem.W.SharedT) : obAT as ex ds tf s = (hookAT as ex ds tf).obs s.abs := by
  unfold obAT
  rw [funext (HandSHeadRun.getT_eq s)]
  rfl
open HandSHeadRun in
/-- the run of the top, some defs alone -/
def RunObs (r : PySem.W.OpenRow) (as : List Addr) (M : Nat) (ds : List Df) (w : World) : Prop :=
  (wholeF (fun p => stepQ (denQ tabQ) p w) fenceQ M r.prog).map (fun x => obA as (fun _ => true) ds x.2) = some (valK ds)
theorem obsK_app {ex : PySem.W.Frag → Bool} {ds1 ds2 : List Df} {K : PySem.W.Frag} (h1 : obsK ex ds1 K = valK ds1) (h2 : obsK (fun _ => true) ds2 K = valK ds2) : obsK ex (ds1 ++ ds2) K = valK (ds1 ++ ds2) := by
  unfold obsK valK at *
  have a1 := congrArg Prod.fst h1
  have b1 := congrArg Prod.snd h1
  have a2 := congrArg Prod.fst h2
  have b2 := congrArg Prod.snd h2
  dsimp only at a1 b1 a2 b2
  obtain ⟨e1, e2⟩ := He.ba a1
  obtain ⟨e3, e4⟩ := He.ba a2
  rw [List.map_append, List.map_append, b1, b2, List.all_append, e1, e2, e4]
  rfl
theorem run_more {r : PySem.W.OpenRow} {q : Program} {as : List Addr} {M : Nat} {ex : PySem.W.Frag → Bool} {ds1 ds2 : List Df} {loose : List Str} {w : World} (h1 : HandSHeadRun.RunEqI r q (hookA as ex ds1) (obA as ex ds1) M loose w) (h2 : RunObs r as M ds2 w) :
    HandSHeadRun.RunEqI r q (hookA as ex (ds1 ++ ds2)) (obA as ex (ds1 ++ ds2)) M loose w := by
  unfold HandSHeadRun.RunEqI at *
  unfold RunObs at h2
  obtain ⟨x, e, h1⟩ := Option.map_eq_some_iff.mp h1
  rw [e] at h2
  rw [e, Option.map_some]
  have h2 := Option.some.inj h2
  have a := congrArg (fun z => z.1) h1
  have b := congrArg (fun z => z.2.1) h1
  have c := congrArg (fun z => z.2.2) h1
  dsimp only at a b c
  refine congrArg some (Prod.ext a (Prod.ext b ?_))
  exact obsK_app (K := frA as (HandSHeadRun.getT x.2)) c h2
theorem run_moreT {r : PySem.W.OpenRow} {q : Program} {as : List Addr} {M : Nat} {ex : PySem.W.Frag → Bool} {ds1 ds2 : List Df} {tf : List He.Defn} {loose : List Str} {w : World} (h1 : HandSHeadRun.RunEqI r q (hookAT as ex ds1 tf) (obAT as ex ds1 tf) M loose w) (h2 : RunObs r as M ds2 w) :
    HandSHeadRun.RunEqI r q (hookAT as ex (ds1 ++ ds2) tf) (obAT as ex (ds1 ++ ds2) tf) M loose w := by
  unfold HandSHeadRun.RunEqI at *
  unfold RunObs at h2
  obtain ⟨x, e, h1⟩ := Option.map_eq_some_iff.mp h1
  rw [e] at h2
  rw [e, Option.map_some]
  have h2 := Option.some.inj h2
  have a := congrArg (fun z => z.1) h1
  have b := congrArg (fun z => z.2.1) h1
  have c := congrArg (fun z => z.2.2.1) h1
  have d := congrArg (fun z => z.2.2.2) h1
  dsimp only at a b
  refine congrArg some (Prod.ext a (Prod.ext b (Prod.ext ?_ d)))
  exact obsK_app (K := frA as (HandSHeadRun.getT x.2)) c h2
theorem runObs_app {r : PySem.W.OpenRow} {as : List Addr} {M : Nat} {ds1 ds2 : List Df} {w : World} (h1 : RunObs r as M ds1 w) (h2 : RunObs r as M ds2 w) : RunObs r as M (ds1 ++ ds2) w := by
  unfold RunObs at *
  obtain ⟨x, e, h1⟩ := Option.map_eq_some_iff.mp h1
  rw [e] at h2
  rw [e, Option.map_some]
  exact congrArg some (obsK_app (K := frA as (HandSHeadRun.getT x.2)) h1 (Option.some.inj h2))
end My

namespace My
open PySem PySem.Spec PyProof.Rows L2
def kinds7 : List String := ["NoneType", "bool", "int", "str", "tuple", "list", "dict"]
def intB (K : PySem.W.Frag) (x : Str) (n : Int) : Bool := match PySem.W.nsIn K mainGlobals x with
  | some (some (.int m _)) => m == n
  | _ => false
end My
namespace Lw
open PySem PySem.Spec PyProof.Rows L2 My
def top (i : Nat) : Stmt := PySem.Challenge.pw_rangehunt_k11_which_steps_are_possible.main.body.getD i (.Pass ⟨0, 0, 0, 0⟩)
abbrev s__wall : Stmt := top 1
abbrev s_is_integer : Stmt := top 4
abbrev s_is_ratio : Stmt := top 5
abbrev s_is_name : Stmt := top 6
abbrev s_ratio : Stmt := top 7
abbrev s_plus : Stmt := top 8
abbrev s_times : Stmt := top 9
abbrev s_over : Stmt := top 10
abbrev s_at_least : Stmt := top 11
abbrev s_whole_of : Stmt := top 12
abbrev s_ratio_of : Stmt := top 13
abbrev s_merged : Stmt := top 14
abbrev s_ascending : Stmt := top 15
abbrev s_need_setting : Stmt := top 27
abbrev s_ranges_of : Stmt := top 28
abbrev s_draw_of : Stmt := top 29
abbrev s_setting_behind : Stmt := top 30
abbrev s_moves_at : Stmt := top 31
abbrev s_reaches : Stmt := top 32
abbrev s_possible : Stmt := top 33
abbrev s_steps : Stmt := top 34
abbrev s_figure_of : Stmt := top 42
abbrev s_line_at : Stmt := top 43
abbrev s_spread_of : Stmt := top 44
abbrev s_is_in_sequence : Stmt := top 45
abbrev s_range_of : Stmt := top 46
abbrev s_read_meter : Stmt := top 47
abbrev s_read_meters : Stmt := top 48
abbrev s_read_loads : Stmt := top 49
abbrev s_lowered : Stmt := top 50
abbrev s_all_settings : Stmt := top 51
abbrev s_weakening : Stmt := top 55
abbrev s_repeated : Stmt := top 56
abbrev s_covers : Stmt := top 57
abbrev s__law_pot : Stmt := top 60
abbrev s__law_take : Stmt := top 61
abbrev s__law_of : Stmt := top 62
abbrev s__law_some : Stmt := top 63
abbrev s__law_cells : Stmt := top 64
abbrev s__law_names : Stmt := top 65
abbrev s__law_common : Stmt := top 66
abbrev s__law_pair : Stmt := top 67
abbrev s__law_plus : Stmt := top 68
abbrev s__law_times : Stmt := top 69
abbrev s__law_over : Stmt := top 70
abbrev s__law_is_less : Stmt := top 71
abbrev s__law_ratio_text : Stmt := top 72
abbrev s__law_loads_of : Stmt := top 73
abbrev s__law_ranges : Stmt := top 74
abbrev s__law_lore : Stmt := top 75
abbrev s__law_shape : Stmt := top 76
abbrev s__law_row_line : Stmt := top 77
abbrev s__law_text : Stmt := top 78
abbrev s__law_lower : Stmt := top 79
abbrev s__law_settings : Stmt := top 80
abbrev s__law_rows : Stmt := top 81
abbrev s__law_draw : Stmt := top 82
abbrev s__law_read : Stmt := top 83
abbrev s__law_moved : Stmt := top 84
abbrev s__law_steps : Stmt := top 85
abbrev s__law_source : Stmt := top 86
abbrev s__law_near_source : Stmt := top 87
abbrev s__law_drawn : Stmt := top 88
abbrev s__law_any_source : Stmt := top 89
abbrev s__law_right : Stmt := top 90
abbrev s_law : Stmt := top 91
abbrev s_MeterError___init__ : Stmt := inClass (top 17) 0
abbrev s_Bench___init__ : Stmt := inClass (top 52) 0
abbrev s_Bench_text : Stmt := inClass (top 52) 1
abbrev s_Bench_meters : Stmt := inClass (top 52) 2
abbrev s_Bench_loads : Stmt := inClass (top 52) 3
abbrev s_Bench_spread : Stmt := inClass (top 52) 4
abbrev s_Bench_settings : Stmt := inClass (top 52) 5
abbrev s_Bench_first : Stmt := inClass (top 52) 6
abbrev s_Bench_load : Stmt := inClass (top 52) 7
abbrev s_Bench_without : Stmt := inClass (top 52) 8
abbrev s_Bench_spread_by : Stmt := inClass (top 52) 9
abbrev s_Bench___getitem__ : Stmt := inClass (top 52) 10
abbrev s_Bench___len__ : Stmt := inClass (top 52) 11
abbrev s_Bench___contains__ : Stmt := inClass (top 52) 12
abbrev s_Bench___eq__ : Stmt := inClass (top 52) 13
abbrev s_Bench___iter__ : Stmt := inClass (top 52) 14
abbrev s_Source___init__ : Stmt := inClass (top 58) 0
abbrev s_Source_volts : Stmt := inClass (top 58) 1
abbrev s_Source_ohms : Stmt := inClass (top 58) 2
abbrev s_Source_at : Stmt := inClass (top 58) 3
abbrev s_Source_under : Stmt := inClass (top 58) 4
abbrev s_Source___add__ : Stmt := inClass (top 58) 5
abbrev s_Source___and__ : Stmt := inClass (top 58) 6
abbrev s_Source___mul__ : Stmt := inClass (top 58) 7
abbrev s_Source___rmul__ : Stmt := inClass (top 58) 8
abbrev s_Source___ge__ : Stmt := inClass (top 58) 9
abbrev s_Source___le__ : Stmt := inClass (top 58) 10
abbrev s_Source___eq__ : Stmt := inClass (top 58) 11
def ds0 : List Df := [⟨fun K => He.ga K "_wall", "_wall", "_wall", s__wall⟩, ⟨fun K => He.ga K "is_integer", "is_integer", "is_integer", s_is_integer⟩, ⟨fun K => He.ga K "is_ratio", "is_ratio", "is_ratio", s_is_ratio⟩, ⟨fun K => He.ga K "is_name", "is_name", "is_name", s_is_name⟩, ⟨fun K => He.ga K "ratio", "ratio", "ratio", s_ratio⟩, ⟨fun K => He.ga K "plus", "plus", "plus", s_plus⟩, ⟨fun K => He.ga K "times", "times", "times", s_times⟩, ⟨fun K => He.ga K "over", "over", "over", s_over⟩, ⟨fun K => He.ga K "at_least", "at_least", "at_least", s_at_least⟩, ⟨fun K => He.ga K "whole_of", "whole_of", "whole_of", s_whole_of⟩, ⟨fun K => He.ga K "ratio_of", "ratio_of", "ratio_of", s_ratio_of⟩, ⟨fun K => He.ga K "merged", "merged", "merged", s_merged⟩, ⟨fun K => He.ga K "ascending", "ascending", "ascending", s_ascending⟩, ⟨fun K => He.ga K "need_setting", "need_setting", "need_setting", s_need_setting⟩, ⟨fun K => He.ga K "ranges_of", "ranges_of", "ranges_of", s_ranges_of⟩, ⟨fun K => He.ga K "draw_of", "draw_of", "draw_of", s_draw_of⟩, ⟨fun K => He.ga K "setting_behind", "setting_behind", "setting_behind", s_setting_behind⟩, ⟨fun K => He.ga K "moves_at", "moves_at", "moves_at", s_moves_at⟩, ⟨fun K => He.ga K "reaches", "reaches", "reaches", s_reaches⟩, ⟨fun K => He.ga K "possible", "possible", "possible", s_possible⟩, ⟨fun K => He.ga K "steps", "steps", "steps", s_steps⟩, ⟨fun K => He.ga K "figure_of", "figure_of", "figure_of", s_figure_of⟩, ⟨fun K => He.ga K "line_at", "line_at", "line_at", s_line_at⟩, ⟨fun K => He.ga K "spread_of", "spread_of", "spread_of", s_spread_of⟩, ⟨fun K => He.ga K "is_in_sequence", "is_in_sequence", "is_in_sequence", s_is_in_sequence⟩, ⟨fun K => He.ga K "range_of", "range_of", "range_of", s_range_of⟩, ⟨fun K => He.ga K "read_meter", "read_meter", "read_meter", s_read_meter⟩, ⟨fun K => He.ga K "read_meters", "read_meters", "read_meters", s_read_meters⟩, ⟨fun K => He.ga K "read_loads", "read_loads", "read_loads", s_read_loads⟩, ⟨fun K => He.ga K "lowered", "lowered", "lowered", s_lowered⟩, ⟨fun K => He.ga K "all_settings", "all_settings", "all_settings", s_all_settings⟩, ⟨fun K => He.ga K "weakening", "weakening", "weakening", s_weakening⟩, ⟨fun K => He.ga K "repeated", "repeated", "repeated", s_repeated⟩, ⟨fun K => He.ga K "covers", "covers", "covers", s_covers⟩, ⟨fun K => He.ga K "_law_pot", "_law_pot", "_law_pot", s__law_pot⟩, ⟨fun K => He.ga K "_law_take", "_law_take", "_law_take", s__law_take⟩, ⟨fun K => He.ga K "_law_of", "_law_of", "_law_of", s__law_of⟩, ⟨fun K => He.ga K "_law_some", "_law_some", "_law_some", s__law_some⟩, ⟨fun K => He.ga K "_law_cells", "_law_cells", "_law_cells", s__law_cells⟩, ⟨fun K => He.ga K "_law_names", "_law_names", "_law_names", s__law_names⟩, ⟨fun K => He.ga K "_law_common", "_law_common", "_law_common", s__law_common⟩, ⟨fun K => He.ga K "_law_pair", "_law_pair", "_law_pair", s__law_pair⟩, ⟨fun K => He.ga K "_law_plus", "_law_plus", "_law_plus", s__law_plus⟩, ⟨fun K => He.ga K "_law_times", "_law_times", "_law_times", s__law_times⟩, ⟨fun K => He.ga K "_law_over", "_law_over", "_law_over", s__law_over⟩, ⟨fun K => He.ga K "_law_is_less", "_law_is_less", "_law_is_less", s__law_is_less⟩, ⟨fun K => He.ga K "_law_ratio_text", "_law_ratio_text", "_law_ratio_text", s__law_ratio_text⟩, ⟨fun K => He.ga K "_law_loads_of", "_law_loads_of", "_law_loads_of", s__law_loads_of⟩, ⟨fun K => He.ga K "_law_ranges", "_law_ranges", "_law_ranges", s__law_ranges⟩, ⟨fun K => He.ga K "_law_lore", "_law_lore", "_law_lore", s__law_lore⟩, ⟨fun K => He.ga K "_law_shape", "_law_shape", "_law_shape", s__law_shape⟩, ⟨fun K => He.ga K "_law_row_line", "_law_row_line", "_law_row_line", s__law_row_line⟩, ⟨fun K => He.ga K "_law_text", "_law_text", "_law_text", s__law_text⟩, ⟨fun K => He.ga K "_law_lower", "_law_lower", "_law_lower", s__law_lower⟩, ⟨fun K => He.ga K "_law_settings", "_law_settings", "_law_settings", s__law_settings⟩, ⟨fun K => He.ga K "_law_rows", "_law_rows", "_law_rows", s__law_rows⟩, ⟨fun K => He.ga K "_law_draw", "_law_draw", "_law_draw", s__law_draw⟩, ⟨fun K => He.ga K "_law_read", "_law_read", "_law_read", s__law_read⟩, ⟨fun K => He.ga K "_law_moved", "_law_moved", "_law_moved", s__law_moved⟩, ⟨fun K => He.ga K "_law_steps", "_law_steps", "_law_steps", s__law_steps⟩, ⟨fun K => He.ga K "_law_source", "_law_source", "_law_source", s__law_source⟩, ⟨fun K => He.ga K "_law_near_source", "_law_near_source", "_law_near_source", s__law_near_source⟩, ⟨fun K => He.ga K "_law_drawn", "_law_drawn", "_law_drawn", s__law_drawn⟩, ⟨fun K => He.ga K "_law_any_source", "_law_any_source", "_law_any_source", s__law_any_source⟩, ⟨fun K => He.ga K "_law_right", "_law_right", "_law_right", s__law_right⟩, ⟨fun K => He.ga K "law", "law", "law", s_law⟩, ⟨fun K => He.ma K (He.ga K "Bench") "__init__", "__init__", "Bench.__init__", s_Bench___init__⟩, ⟨fun K => gtOf K (He.ma K (He.ga K "Bench") "text"), "text", "Bench.text", s_Bench_text⟩, ⟨fun K => gtOf K (He.ma K (He.ga K "Bench") "meters"), "meters", "Bench.meters", s_Bench_meters⟩, ⟨fun K => gtOf K (He.ma K (He.ga K "Bench") "loads"), "loads", "Bench.loads", s_Bench_loads⟩, ⟨fun K => gtOf K (He.ma K (He.ga K "Bench") "spread"), "spread", "Bench.spread", s_Bench_spread⟩, ⟨fun K => gtOf K (He.ma K (He.ga K "Bench") "settings"), "settings", "Bench.settings", s_Bench_settings⟩, ⟨fun K => gtOf K (He.ma K (He.ga K "Bench") "first"), "first", "Bench.first", s_Bench_first⟩, ⟨fun K => He.ma K (He.ga K "Bench") "load", "load", "Bench.load", s_Bench_load⟩, ⟨fun K => He.ma K (He.ga K "Bench") "without", "without", "Bench.without", s_Bench_without⟩, ⟨fun K => He.ma K (He.ga K "Bench") "spread_by", "spread_by", "Bench.spread_by", s_Bench_spread_by⟩, ⟨fun K => He.ma K (He.ga K "Bench") "__getitem__", "__getitem__", "Bench.__getitem__", s_Bench___getitem__⟩, ⟨fun K => He.ma K (He.ga K "Bench") "__len__", "__len__", "Bench.__len__", s_Bench___len__⟩, ⟨fun K => He.ma K (He.ga K "Bench") "__contains__", "__contains__", "Bench.__contains__", s_Bench___contains__⟩, ⟨fun K => He.ma K (He.ga K "Bench") "__eq__", "__eq__", "Bench.__eq__", s_Bench___eq__⟩, ⟨fun K => He.ma K (He.ga K "Bench") "__iter__", "__iter__", "Bench.__iter__", s_Bench___iter__⟩, ⟨fun K => He.ma K (He.ga K "Source") "__init__", "__init__", "Source.__init__", s_Source___init__⟩, ⟨fun K => gtOf K (He.ma K (He.ga K "Source") "volts"), "volts", "Source.volts", s_Source_volts⟩, ⟨fun K => gtOf K (He.ma K (He.ga K "Source") "ohms"), "ohms", "Source.ohms", s_Source_ohms⟩, ⟨fun K => He.ma K (He.ga K "Source") "at", "at", "Source.at", s_Source_at⟩, ⟨fun K => He.ma K (He.ga K "Source") "under", "under", "Source.under", s_Source_under⟩, ⟨fun K => He.ma K (He.ga K "Source") "__add__", "__add__", "Source.__add__", s_Source___add__⟩, ⟨fun K => He.ma K (He.ga K "Source") "__and__", "__and__", "Source.__and__", s_Source___and__⟩, ⟨fun K => He.ma K (He.ga K "Source") "__mul__", "__mul__", "Source.__mul__", s_Source___mul__⟩, ⟨fun K => He.ma K (He.ga K "Source") "__rmul__", "__rmul__", "Source.__rmul__", s_Source___rmul__⟩]
def ds1 : List Df := [⟨fun K => He.ma K (He.ga K "Source") "__ge__", "__ge__", "Source.__ge__", s_Source___ge__⟩, ⟨fun K => He.ma K (He.ga K "Source") "__le__", "__le__", "Source.__le__", s_Source___le__⟩, ⟨fun K => He.ma K (He.ga K "Source") "__eq__", "__eq__", "Source.__eq__", s_Source___eq__⟩]
def ds : List Df := [] ++ (ds0 ++ (ds1))
def as0 : List Addr := ([3, 6, 4, 49, 50, 57, 64, 69, 76, 83, 90, 97, 104, 111, 118, 125, 132, 149, 162, 174, 186, 198, 210, 222, 234, 237, 244, 249, 256, 261, 268, 275, 282, 289, 296, 303, 310, 317, 322, 329] : List Addr) ++ ([336, 343, 350, 355, 468, 473, 480, 487, 494, 590, 601, 608, 615, 622, 629, 636, 643, 650, 657, 664, 671, 678, 685, 690, 697, 702, 709, 716, 721, 728, 733, 738, 745, 752, 757, 764, 771, 776, 783, 790] : List Addr) ++ ([795, 800, 0, 48, 56, 63, 68, 75, 82, 89, 96, 103, 110, 117, 124, 131, 148, 161, 173, 185, 197, 209, 221, 233, 243, 248, 255, 260, 267, 274, 281, 288, 295, 302, 309, 316, 321, 328, 335, 342] : List Addr) ++ ([349, 354, 467, 479, 486, 493, 589, 600, 607, 614, 621, 628, 635, 642, 649, 656, 663, 670, 677, 684, 689, 696, 701, 708, 715, 720, 727, 732, 737, 744, 751, 756, 763, 770, 775, 782, 789, 794, 799, 43] : List Addr) ++ ([44, 45, 46, 47, 51, 52, 53, 54, 55, 58, 59, 60, 61, 62, 65, 66, 67, 70, 71, 72, 73, 74, 77, 78, 79, 80, 81, 84, 85, 86, 87, 88, 91, 92, 93, 94, 95, 98, 99, 100] : List Addr) ++ ([101, 102, 105, 106, 107, 108, 109, 112, 113, 114, 115, 116, 119, 120, 121, 122, 123, 126, 127, 128, 129, 130, 146, 147, 150, 160, 172, 184, 196, 208, 220, 232, 238, 239, 240, 241, 242, 245, 246, 247] : List Addr) ++ ([250, 251, 252, 253, 254, 257, 258, 259, 262, 263, 264, 265, 266, 269, 270, 271, 272, 273, 276, 277, 278, 279, 280, 283, 284, 285, 286, 287, 290, 291, 292, 293, 294, 297, 298, 299, 300, 301, 304, 305] : List Addr) ++ ([306, 307, 308, 311, 312, 313, 314, 315, 318, 319, 320, 323, 324, 325, 326, 327, 330, 331, 332, 333, 334, 337, 338, 339, 340, 341, 344, 345, 346, 347, 348, 351, 352, 353, 367, 375, 381, 387, 395, 403] : List Addr) ++ ([409, 416, 423, 430, 437, 444, 451, 458, 465, 466, 469, 470, 474, 475, 476, 477, 478, 481, 482, 483, 484, 485, 488, 489, 490, 491, 492, 508, 516, 524, 531, 538, 545, 552, 559, 566, 573, 580, 587, 588] : List Addr) ++ ([591, 592, 595, 596, 597, 598, 599, 602, 603, 604, 605, 606, 609, 610, 611, 612, 613, 616, 617, 618, 619, 620, 623, 624, 625, 626, 627, 630, 631, 632, 633, 634, 637, 638, 639, 640, 641, 644, 645, 646] : List Addr) ++ ([647, 648, 651, 652, 653, 654, 655, 658, 659, 660, 661, 662, 665, 666, 667, 668, 669, 672, 673, 674, 675, 676, 679, 680, 681, 682, 683, 686, 687, 688, 691, 692, 693, 694, 695, 698, 699, 700, 703, 704] : List Addr) ++ ([705, 706, 707, 710, 711, 712, 713, 714, 717, 718, 719, 722, 723, 724, 725, 726, 729, 730, 731, 734, 735, 736, 739, 740, 741, 742, 743, 746, 747, 748, 749, 750, 753, 754, 755, 758, 759, 760, 761, 762] : List Addr) ++ ([765, 766, 767, 768, 769, 772, 773, 774, 777, 778, 779, 780, 781, 784, 785, 786, 787, 788, 791, 792, 793, 796, 797, 798, 145, 366, 374, 380, 386, 394, 402, 408, 415, 422, 429, 436, 443, 450, 457, 464] : List Addr) ++ ([507, 515, 523, 530, 537, 544, 551, 558, 565, 572, 579, 586, 140, 141, 142, 143, 144, 363, 364, 365, 373, 379, 385, 393, 401, 407, 410, 411, 412, 413, 414, 417, 418, 419, 420, 421, 424, 425, 426, 427] : List Addr) ++ ([428, 431, 432, 433, 434, 435, 438, 439, 440, 441, 442, 445, 446, 447, 448, 449, 452, 453, 454, 455, 456, 459, 460, 461, 462, 463, 502, 503, 504, 505, 506, 514, 522, 525, 526, 527, 528, 529, 532, 533] : List Addr) ++ ([534, 535, 536, 539, 540, 541, 542, 543, 546, 547, 548, 549, 550, 553, 554, 555, 556, 557, 560, 561, 562, 563, 564, 567, 568, 569, 570, 571, 574, 575, 576, 577, 578, 581, 582, 583, 584, 585, 368, 369] : List Addr) ++ ([370, 371, 372, 376, 377, 378, 382, 383, 384, 388, 389, 390, 391, 392, 396, 397, 398, 399, 400, 404, 405, 406, 509, 510, 511, 512, 513, 517, 518, 519, 520, 521] : List Addr)
def fa : List He.Fa := [.glo "_wall", .glo "is_integer", .glo "is_ratio", .glo "is_name", .glo "ratio", .glo "plus", .glo "times", .glo "over", .glo "at_least", .glo "whole_of", .glo "ratio_of", .glo "merged", .glo "ascending", .glo "need_setting", .glo "ranges_of", .glo "draw_of", .glo "setting_behind", .glo "moves_at", .glo "reaches", .glo "possible", .glo "steps", .glo "figure_of", .glo "line_at", .glo "spread_of", .glo "is_in_sequence", .glo "range_of", .glo "read_meter", .glo "read_meters", .glo "read_loads", .glo "lowered", .glo "all_settings", .glo "weakening", .glo "repeated", .glo "covers", .glo "_law_pot", .glo "_law_take", .glo "_law_of", .glo "_law_some", .glo "_law_cells", .glo "_law_names", .glo "_law_common", .glo "_law_pair", .glo "_law_plus", .glo "_law_times", .glo "_law_over", .glo "_law_is_less", .glo "_law_ratio_text", .glo "_law_loads_of", .glo "_law_ranges", .glo "_law_lore", .glo "_law_shape", .glo "_law_row_line", .glo "_law_text", .glo "_law_lower", .glo "_law_settings", .glo "_law_rows", .glo "_law_draw", .glo "_law_read", .glo "_law_moved", .glo "_law_steps", .glo "_law_source", .glo "_law_near_source", .glo "_law_drawn", .glo "_law_any_source", .glo "_law_right", .glo "law", .free "ValueError", .free "int", .free "zip", .free "tuple", .free "range", .free "any", .free "list", .free "enumerate", .free "sorted", .free "isinstance", .free "all", .free "len", .free "abs", .free "str", .free "set", .free "bool", .free "max", .free "min", .free "repr", .cls "Bench", .glo "Bench", .mkr "Bench", .noat "Bench" "_text", .noat "Bench" "_spread", .noat "Bench" "_ranges", .noat "Bench" "_loads", .noat "Bench" "_settings", .meth "Bench" "__init__", .meth "Bench" "load", .meth "Bench" "without", .meth "Bench" "spread_by", .meth "Bench" "__getitem__", .meth "Bench" "__len__", .meth "Bench" "__contains__", .meth "Bench" "__eq__", .meth "Bench" "__iter__", .cls "Source", .glo "Source", .mkr "Source", .noat "Source" "_volts", .noat "Source" "_ohms", .meth "Source" "__init__", .meth "Source" "at", .meth "Source" "under", .meth "Source" "__add__", .meth "Source" "__and__", .meth "Source" "__mul__", .meth "Source" "__rmul__", .meth "Source" "__ge__", .meth "Source" "__le__", .meth "Source" "__eq__", .glo "WAYS", .glo "ONE", .glo "ZERO"]
def exs (K : PySem.W.Frag) : List Bool := [bltB K "gcd" "math.gcd", PySem.W.selfFirst K (He.ga K "Bench"), propB K "Bench" "text", propB K "Bench" "meters", propB K "Bench" "loads", propB K "Bench" "spread", propB K "Bench" "settings", propB K "Bench" "first", PySem.W.selfFirst K (He.ga K "Source"), propB K "Source" "volts", propB K "Source" "ohms", He.tupB K "WAYS" [.str "down", .str "up"], He.tupB K "ONE" [.int 1, .int 1], He.tupB K "ZERO" [.int 0, .int 1], insB K "Bench", PySem.W.fnIn K (He.ma K (He.ga K "Bench") "__getitem__"), spcB K (He.ga K "Bench") "__len__", neB K (He.ga K "Bench"), kinds7.all (fun n => PySem.W.notFirst K (He.ga K "Bench") (.type n) && decide (PySem.W.kitOne K (.type n) (.ref (He.ga K "Bench")) = some false)), intB K "MOST_METERS" 3, intB K "MOST_RANGES" 4, intB K "MOST_LOADS" 2, intB K "MOST_SPREAD" 20, intB K "MOST_PART" 9999, intB K "LONGEST_RATIO" 9, insB K "Source"]
def ex (K : PySem.W.Frag) : Bool := fa.all (He.Fa.ok K) && (exs K).all id
abbrev RR : PySem.W.OpenRow := PySem.W.OpenLaw.row PySem.Challenge.rw_rangehunt_k11_which_steps_are_possible
def loose : List Str := (["gcd", "_wall", "__name__", "ZERO", "is_integer", "is_ratio", "is_name", "ratio", "plus", "times", "over", "at_least", "whole_of", "ratio_of", "merged", "ascending", "MeterError", "BadRatio", "Short", "BadMany", "BadBench", "NoMeter", "NoLoad", "BadSetting", "WAYS", "need_setting", "ranges_of", "draw_of", "setting_behind", "moves_at"] : List Str) ++ (["reaches", "possible", "steps", "MOST_METERS", "MOST_RANGES", "MOST_LOADS", "MOST_SPREAD", "MOST_PART", "LONGEST_RATIO", "figure_of", "line_at", "spread_of", "is_in_sequence", "range_of", "read_meter", "read_meters", "read_loads", "lowered", "all_settings", "Bench", "ONE", "weakening", "repeated", "covers", "Source", "_law_pot", "_law_take", "_law_of", "_law_some", "_law_cells"] : List Str) ++ (["_law_names", "_law_common", "_law_pair", "_law_plus", "_law_times", "_law_over", "_law_is_less", "_law_ratio_text", "_law_loads_of", "_law_ranges", "_law_lore", "_law_shape", "_law_row_line", "_law_text", "_law_lower", "_law_settings", "_law_rows", "_law_draw", "_law_read", "_law_moved", "_law_steps", "_law_source", "_law_near_source", "_law_drawn", "_law_any_source", "_law_right"] : List Str)
theorem run0 (w : World) : RunObs RR as0 6000 ds0 w := by
  unfold RunObs
  kernel_rfl
theorem run1 (w : World) : RunObs RR as0 6000 ds1 w := by
  unfold RunObs
  kernel_rfl
theorem runH (w : World) : HandSHeadRun.RunEqI RR (PySem.W.view RR.prog [91]) (hookA as0 ex []) (obA as0 ex []) 6000 loose w := by
  unfold HandSHeadRun.RunEqI
  kernel_rfl
theorem run (w : World) : HandSHeadRun.RunEqI RR (PySem.W.view RR.prog [91]) (hookA as0 ex ds) (obA as0 ex ds) 6000 loose w := by
  delta ds
  exact run_more (runH w) (runObs_app (run0 w) (run1 w))
end Lw
/-! own layer: the texts of benches -/
namespace My
open PySem PySem.Spec PyProof.Rows L2 TL
/-- the text of a number -/
def nS (n : Nat) : Str := Str.ofString (toString (n : Int))
theorem tl_nS (n : Nat) : tl (nS n) = numL n := tl_num n
theorem nS_free {n s : Nat} (h : s < 48 ∨ 57 < s) : s ∉ tl (nS n) := by rw [tl_nS]; exact numL_free h
theorem nS_len {n k : Nat} (hk : 0 < k) (h : n < 10 ^ k) : (nS n).length ≤ k := by rw [len_tl, tl_nS]; exact numL_len hk h
theorem nS_pos (n : Nat) : 0 < (nS n).length := by rw [len_tl, tl_nS]; exact List.length_pos_iff.mpr (numL_ne n)
theorem nS_inj {m n : Nat} (h : nS m = nS n) : m = n := numL_inj (by rw [← tl_nS, ← tl_nS, h])
theorem numL_head : ∀ n : Nat, 0 < n → ∃ c r, numL n = c :: r ∧ c ≠ 48 ∧ 48 ≤ c ∧ c ≤ 57 := by
  intro n
  induction n using Nat.strongRecOn with
  | _ n ih =>
    intro h0
    by_cases h : n < 10
    · exact ⟨48 + n, [], numL_lt h, by omega, by omega, by omega⟩
    · obtain ⟨c, r, e, h1⟩ := ih (n / 10) (by omega) (by omega)
      exact ⟨c, r ++ [48 + n % 10], by rw [numL_step (by omega), e]; rfl, h1⟩
theorem numL_one {n : Nat} (h : 10 ≤ n) : 1 < (numL n).length := by
  rw [numL_step h, List.length_append]
  have := List.length_pos_iff.mpr (numL_ne (n / 10))
  simp only [List.length_cons, List.length_nil]
  omega
/-- the text of a ratio -/
def rT (q : Rat) : Str := if q.den = 1 then nS q.num.toNat else nS q.num.toNat ++ ("/" : Str) ++ nS q.den
/-- what may stand on a bench -/
structure RatOk (q : Rat) : Prop where
  nn : 0 ≤ q
  n : q.num ≤ 9999
  d : q.den ≤ 9999
theorem RatOk.num0 {q : Rat} (h : RatOk q) : 0 ≤ q.num := Rat.num_nonneg.mpr h.nn
theorem RatOk.sz {q : Rat} (h : RatOk q) : Sz 20 q := by
  have := h.num0
  have := h.n
  have := h.d
  exact ⟨by omega, by omega⟩
theorem rT_free {q : Rat} {s : Nat} (h : s < 47 ∨ 57 < s) : s ∉ tl (rT q) := by
  unfold rT
  split
  · exact nS_free (by omega)
  · rw [tl_append, tl_append]
    simp only [List.mem_append, not_or]
    refine ⟨⟨nS_free (by omega), ?_⟩, nS_free (by omega)⟩
    show s ∉ [47]
    simp only [List.mem_singleton]
    omega
theorem rT_len {q : Rat} (h : RatOk q) : (rT q).length ≤ 9 := by
  have h0 := h.num0
  have h1 := h.n
  have h2 := h.d
  unfold rT
  split
  · exact Nat.le_trans (nS_len (k := 4) (by decide) (by omega)) (by decide)
  · rw [Str.length_append, Str.length_append]
    have a := nS_len (n := q.num.toNat) (k := 4) (by decide) (by omega)
    have b := nS_len (n := q.den) (k := 4) (by decide) (by omega)
    have c : (("/" : String) : Str).length = 1 := rfl
    omega
theorem rT_pos {q : Rat} : 0 < (rT q).length := by
  unfold rT
  split
  · exact nS_pos _
  · rw [Str.length_append, Str.length_append]
    have := nS_pos q.num.toNat
    omega
/-! ### names -/
structure NmOk (n : Str) : Prop where
  lo : 1 ≤ n.length
  hi : n.length ≤ 8
  az : ∀ c ∈ tl n, 97 ≤ c ∧ c ≤ 122
theorem NmOk.free {n : Str} (h : NmOk n) {s : Nat} (hs : s < 97 ∨ 122 < s) : s ∉ tl n := fun z => by have := h.az s z; omega
def nmB (n : Str) : Bool := decide (1 ≤ n.length) && decide (n.length ≤ 8) && (tl n).all fun c => decide (97 ≤ c) && decide (c ≤ 122)
theorem nmB_ok {n : Str} (h : nmB n = true) : NmOk n := by
  unfold nmB at h
  simp only [Bool.and_eq_true, decide_eq_true_eq, List.all_eq_true] at h
  exact ⟨h.1.1, h.1.2, h.2⟩
/-! ### a bench -/
structure Row where
  n : Str
  G : Rat
  S : Rat
  D : Option Rat
  U : Option Rat
structure Lore where
  spread : Nat
  meters : List (Str × List Row)
  loads : List (Str × Rat)
def optW (w : Str) : Option Rat → List Str
  | none => []
  | some q => [w, rT q]
def rowWords (r : Row) : List Str := ([("" : Str), ("" : Str), ("range" : Str), r.n, ("load" : Str), rT r.G, ("unit" : Str), rT r.S] : List Str) ++ (optW "down" r.D ++ optW "up" r.U)
def rowLine (r : Row) : Str := Txt.join " " (rowWords r)
def meterLine (n : Str) : Str := Txt.join " " ["meter", n]
def loadLine (l : Str × Rat) : Str := Txt.join " " ["load", l.1, rT l.2]
def spreadLine (s : Nat) : Str := Txt.join " " ["spread", nS s]
def meterLines (m : Str × List Row) : List Str := meterLine m.1 :: m.2.map rowLine
def spreadLines (s : Nat) : List Str := if s > 0 then [spreadLine s] else []
def lines (L : Lore) : List Str := spreadLines L.spread ++ (L.meters.flatMap meterLines ++ L.loads.map loadLine)
def textOf (L : Lore) : Str := Txt.join "\n" (lines L)
/-- a range that stands behind these of its meter -/
structure RowOk (r : Row) (ahead : List Row) : Prop where
  nm : NmOk r.n
  fresh : ∀ a ∈ ahead, a.n ≠ r.n
  g : RatOk r.G
  s : RatOk r.S
  s0 : 0 < r.S
  d : (ahead = [] → r.D = none) ∧ (ahead ≠ [] → ∃ q, r.D = some q ∧ RatOk q)
  u : ∀ q, r.U = some q → RatOk q ∧ 0 < q
  /-- behind the range ahead -/
  seq : ∀ a ∈ ahead.getLast?, ∃ t, a.U = some t ∧ RatOk t ∧ (∀ q, r.D = some q → q ≤ t) ∧ ∀ q, r.U = some q → t < q
/-- rows of a meter, as they stand one behind the other -/
def RowsOk : List Row → List Row → Prop
  | _, [] => True
  | ahead, r :: rs => RowOk r ahead ∧ (rs ≠ [] → r.U ≠ none) ∧ (rs = [] → r.U = none) ∧ RowsOk (ahead ++ [r]) rs
structure LoreOk (L : Lore) : Prop where
  spread : L.spread ≤ 20
  m1 : 1 ≤ L.meters.length
  m3 : L.meters.length ≤ 3
  mn : ∀ m ∈ L.meters, NmOk m.1
  md : (L.meters.map (·.1)).Nodup
  rows : ∀ m ∈ L.meters, m.2 ≠ [] ∧ m.2.length ≤ 4 ∧ RowsOk [] m.2
  l2 : L.loads.length ≤ 2
  ln : ∀ l ∈ L.loads, NmOk l.1 ∧ RatOk l.2
  ld : (L.loads.map (·.1)).Nodup
/-! ### cut again -/
theorem split_words {ws : List Str} (hne : ws ≠ []) (h : ∀ w ∈ ws, 32 ∉ tl w) : Txt.split (Txt.join " " ws) " " = ws := split_join (y := " ") (s := 32) (S := []) rfl (by decide +kernel) hne h
theorem split_lines {ws : List Str} (hne : ws ≠ []) (h : ∀ w ∈ ws, 10 ∉ tl w) : Txt.split (Txt.join "\n" ws) "\n" = ws := split_join (y := "\n") (s := 10) (S := []) rfl (by decide +kernel) hne h
theorem optW_free {w : Str} {o : Option Rat} {s : Nat} (hs : s < 47 ∨ 57 < s) (h : s ∉ tl w) : ∀ x ∈ optW w o, s ∉ tl x := by
  intro x hx
  cases o with
  | none => cases hx
  | some q =>
    rcases List.mem_cons.mp hx with rfl | hx
    · exact h
    · rw [List.mem_singleton.mp hx]; exact rT_free hs
theorem rowWords_free {r : Row} (h : NmOk r.n) {s : Nat} (hs : s < 47) (hz : s ≠ 0) : ∀ w ∈ rowWords r, s ∉ tl w := by
  intro w hw
  unfold rowWords at hw
  simp only [List.mem_append, List.mem_cons, List.not_mem_nil, or_false] at hw
  rcases hw with (rfl | rfl | rfl | rfl | rfl | rfl | rfl | rfl) | hw | hw
  · exact List.not_mem_nil
  · exact List.not_mem_nil
  · show s ∉ [114, 97, 110, 103, 101]
    simp only [List.mem_cons, List.not_mem_nil, or_false, not_or]
    omega
  · exact h.free (by omega)
  · show s ∉ [108, 111, 97, 100]
    simp only [List.mem_cons, List.not_mem_nil, or_false, not_or]
    omega
  · exact rT_free (by omega)
  · show s ∉ [117, 110, 105, 116]
    simp only [List.mem_cons, List.not_mem_nil, or_false, not_or]
    omega
  · exact rT_free (by omega)
  · refine optW_free (by omega) ?_ w hw
    show s ∉ [100, 111, 119, 110]
    simp only [List.mem_cons, List.not_mem_nil, or_false, not_or]
    omega
  · refine optW_free (by omega) ?_ w hw
    show s ∉ [117, 112]
    simp only [List.mem_cons, List.not_mem_nil, or_false, not_or]
    omega
/-! ### numbers read again -/
theorem nS_ascii (n : Nat) : Txt.isascii (nS n) = true := by
  unfold Txt.isascii
  rw [← Array.all_toList, show (nS n).cps.toList = numL n from tl_nS n, List.all_eq_true]
  intro c hc
  have := numL_digits n c hc
  exact decide_eq_true (by omega)
theorem dig_all : ∀ c, 48 ≤ c → c ≤ 57 → Unicode.isDigit c = true := by
  intro c h1 h2
  have : ∀ c, c < 58 → 48 ≤ c → Unicode.isDigit c = true := by decide +kernel
  exact this c (by omega) h1
theorem nS_digit (n : Nat) : Txt.isdigit (nS n) = true := by
  unfold Txt.isdigit
  rw [← Array.all_toList, show (nS n).cps.toList = numL n from tl_nS n, Bool.and_eq_true, List.all_eq_true]
  refine ⟨decide_eq_true (nS_pos n), fun c hc => ?_⟩
  have := numL_digits n c hc
  exact dig_all c this.1 this.2
theorem nS_head {n : Nat} (h : 1 < (nS n).length) : ∃ c, atI (nS n).cps.toList 0 = some c ∧ c ≠ 48 := by
  have h0 : 0 < n := by
    rcases Nat.eq_zero_or_pos n with rfl | h0
    · rw [len_tl, tl_nS, numL_lt (by decide)] at h
      simp at h
    · exact h0
  obtain ⟨c, r, e, hc, _⟩ := numL_head n h0
  refine ⟨c, ?_, hc⟩
  rw [show (nS n).cps.toList = numL n from tl_nS n, e]
  exact atI_nat (j := 0) rfl
theorem nS_int (n : Nat) (h : n < 100000) : intText? (nS n) = some (n : Int) := int_num (Nat.le_trans (numL_len (k := 5) (by decide) h) (by decide))
theorem rT_part1 {q : Rat} (h : q.den = 1) : Txt.partition (rT q) "/" = (nS q.num.toNat, Str.empty, Str.empty) := by
  unfold rT
  rw [if_pos h]
  exact partition_none (y := "/") (s := 47) (S := []) rfl (nS_free (by decide))
theorem rT_part2 {q : Rat} (h : ¬ q.den = 1) : Txt.partition (rT q) "/" = (nS q.num.toNat, ("/" : Str), nS q.den) := by
  unfold rT
  rw [if_neg h]
  exact partition_app (y := "/") (s := 47) (S := []) rfl (nS_free (by decide))
theorem spreadLine_eq (n : Nat) : ("spread " : Str) ++ nS n = spreadLine n := ext_tl (by
  unfold spreadLine
  rw [join_eq, tl_append, tl_join]
  rfl)
/-! ### sizes -/
theorem joinL_len (S : List Nat) : ∀ ps : List (List Nat), (joinL S ps).length ≤ (ps.map (·.length)).sum + ps.length * S.length
  | [] => Nat.zero_le _
  | [p] => by simp [joinL]
  | p :: q :: r => by
    have ih := joinL_len S (q :: r)
    simp only [joinL, List.length_append, List.map_cons, List.sum_cons, List.length_cons] at ih ⊢
    rw [Nat.succ_mul]
    omega
theorem join_len (y : Str) (ws : List Str) : (Txt.join y ws).length ≤ (ws.map (·.length)).sum + ws.length * y.length := by
  rw [len_tl, join_eq, tl_join]
  refine Nat.le_trans (joinL_len _ _) ?_
  rw [List.map_map, List.length_map, len_tl y]
  have : ws.map ((fun x : List Nat => x.length) ∘ tl) = ws.map (·.length) := List.map_congr_left fun w _ => (len_tl w).symm
  rw [this]
  exact Nat.le_refl _
theorem sum_le {α : Type} {f : α → Nat} {k : Nat} : ∀ {l : List α}, (∀ a ∈ l, f a ≤ k) → (l.map f).sum ≤ l.length * k
  | [], _ => Nat.zero_le _
  | a :: l, h => by
    have h1 := h a (List.mem_cons_self ..)
    have h2 := sum_le (l := l) fun b hb => h b (List.mem_cons_of_mem _ hb)
    simp only [List.map_cons, List.sum_cons, List.length_cons, Nat.succ_mul]
    omega
theorem join_le {y : Str} {ws : List Str} {k : Nat} (h : ∀ w ∈ ws, w.length ≤ k) : (Txt.join y ws).length ≤ ws.length * (k + y.length) := by
  refine Nat.le_trans (join_len y ws) ?_
  have := sum_le (f := fun w : Str => w.length) h
  rw [Nat.mul_add]
  omega
theorem optW_len {w : Str} {o : Option Rat} (hw : w.length ≤ 9) (ho : ∀ q, o = some q → RatOk q) : ∀ x ∈ optW w o, x.length ≤ 9 := by
  intro x hx
  cases o with
  | none => cases hx
  | some q =>
    rcases List.mem_cons.mp hx with rfl | hx
    · exact hw
    · rw [List.mem_singleton.mp hx]; exact rT_len (ho q rfl)
theorem RowOk.dq {r : Row} {ahead : List Row} (h : RowOk r ahead) : ∀ q, r.D = some q → RatOk q := by
  intro q e
  by_cases ha : ahead = []
  · rw [h.d.1 ha] at e; cases e
  · obtain ⟨q', e2, hq⟩ := h.d.2 ha
    rw [e] at e2
    cases e2
    exact hq
theorem RowOk.uq {r : Row} {ahead : List Row} (h : RowOk r ahead) : ∀ q, r.U = some q → RatOk q := fun q e => (h.u q e).1
theorem rowWords_le {r : Row} {ahead : List Row} (h : RowOk r ahead) : ∀ w ∈ rowWords r, w.length ≤ 9 := by
  intro w hw
  unfold rowWords at hw
  simp only [List.mem_append, List.mem_cons, List.not_mem_nil, or_false] at hw
  rcases hw with (rfl | rfl | rfl | rfl | rfl | rfl | rfl | rfl) | hw | hw
  · decide +kernel
  · decide +kernel
  · decide +kernel
  · have := h.nm.hi; omega
  · decide +kernel
  · exact rT_len h.g
  · decide +kernel
  · exact rT_len h.s
  · exact optW_len (by decide +kernel) h.dq w hw
  · exact optW_len (by decide +kernel) h.uq w hw
theorem rowWords_few (r : Row) : (rowWords r).length ≤ 12 := by
  unfold rowWords
  cases r.D <;> cases r.U <;> simp [optW]
theorem rowLine_le {r : Row} {ahead : List Row} (h : RowOk r ahead) : (rowLine r).length ≤ 120 := by
  refine Nat.le_trans (join_le (rowWords_le h)) ?_
  have := rowWords_few r
  have e : (9 + ((" " : String) : Str).length) = 10 := rfl
  rw [e]
  omega
/-! ### signs that Python has -/
def WOk (w : Str) : Prop := ∀ c ∈ tl w, c < 1114112
theorem NmOk.w {n : Str} (h : NmOk n) : WOk n := fun c hc => by have := h.az c hc; omega
theorem nS_w (n : Nat) : WOk (nS n) := fun c hc => by
  rw [tl_nS] at hc
  have := numL_digits n c hc
  omega
theorem rT_w (q : Rat) : WOk (rT q) := by
  unfold rT
  split
  · exact nS_w _
  · intro c hc
    rw [tl_append, tl_append] at hc
    simp only [List.mem_append] at hc
    rcases hc with (hc | hc) | hc
    · exact nS_w _ c hc
    · have : c = 47 := by simpa using (show c ∈ [47] from hc)
      omega
    · exact nS_w _ c hc
def strsD (ws : List Str) : PyData := .list (ws.map .str)
theorem shaped_strs {ws : List Str} (h : ∀ w ∈ ws, WOk w) : SeqAt.shaped (strsD ws) = true := by
  have h1 : ∀ ws : List Str, (∀ w ∈ ws, WOk w) → PyData.canLayAll0 (ws.map .str) = true := by
    intro ws
    induction ws with
    | nil => intro _; rfl
    | cons w ws ih =>
      intro h
      show (PyData.canLay0 (.str w) && PyData.canLayAll0 (ws.map .str)) = true
      rw [ih fun x hx => h x (List.mem_cons_of_mem _ hx), Bool.and_true]
      show PyData.strOk w = true
      unfold PyData.strOk
      rw [← Array.all_toList, List.all_eq_true]
      intro c hc
      exact decide_eq_true (h w (List.mem_cons_self ..) c hc)
  have h2 : ∀ ws : List Str, PyData.depthAll (ws.map .str) = 0 := by
    intro ws
    induction ws with
    | nil => rfl
    | cons w ws ih =>
      show max (PyData.depth (.str w)) (PyData.depthAll (ws.map .str)) = 0
      rw [ih]
      rfl
  unfold SeqAt.shaped strsD
  rw [Bool.and_eq_true]
  refine ⟨h1 ws h, decide_eq_true ?_⟩
  show PyData.depthAll (ws.map .str) + 1 ≤ 64
  rw [h2]
  decide
theorem eqv_strs : ∀ a b : List Str, PyData.eqv (strsD a) (strsD b) = decide (a = b) := by
  have h : ∀ a b : List Str, PyData.eqvAll (a.map .str) (b.map .str) = decide (a = b) := by
    intro a
    induction a with
    | nil => intro b; cases b <;> rfl
    | cons x a ih =>
      intro b
      cases b with
      | nil => rfl
      | cons y b =>
        show (PyData.eqv (.str x) (.str y) && PyData.eqvAll (a.map .str) (b.map .str)) = _
        rw [ih, show PyData.eqv (.str x) (.str y) = (x == y) by simp [PyData.eqv]]
        by_cases h1 : x = y <;> by_cases h2 : a = b <;> simp [h1, h2]
  intro a b
  show PyData.eqv (.list _) (.list _) = _
  rw [PyData.eqv]
  exact h a b
theorem dp_strs {K : PySem.W.Frag} {H : Hp} {a : Addr} {ws : List Str} (h : SqL K H a (ws.map V.str)) : Dp K H (.ref a) (strsD ws) := by
  have : ∀ ws : List Str, DpAll K H (ws.map V.str) (ws.map .str) := by
    intro ws
    induction ws with
    | nil => exact .nil
    | cons w ws ih => exact .cons (.str w) ih
  exact .lst h (this ws)
def wokB (w : Str) : Bool := (tl w).all fun c => decide (c < 1114112)
theorem wokB_ok {w : Str} (h : wokB w = true) : WOk w := fun c hc => of_decide_eq_true (List.all_eq_true.mp h c hc)
theorem wok_all {ws : List Str} (h : ws.all wokB = true) : ∀ w ∈ ws, WOk w := fun w hw => wokB_ok (List.all_eq_true.mp h w hw)
end My

/-! what the helpers of one law promise: loads as sources -/
namespace My
open PySem PySem.Spec PyProof.Rows L2
def spRatio (K : PySem.W.Frag) : Sp := fun vs H Q _ => ∃ (p : Addr) (n : Int), vs = [.ref p] ∧ Pot H p n ∧ n < 900000 ∧
  ∀ (a : Addr) (H' : Hp) (q : Rat), But p H H' → Pot H' p (n + 5) → H a = none → SqT K H' a (rat q) → 0 ≤ q → Sz 30 q → Q (.ref a) H'
def spBeside (K : PySem.W.Frag) (C : Addr) : Sp := fun vs H Q _ => ∃ (s a : Addr) (v r g : Rat), vs = [.ref s, .ref a] ∧ SrcAt K C H s v r ∧ SqT K H a (rat g) ∧ Sz 40 v ∧ Sz 40 r ∧ Sz 40 g ∧ 0 < g ∧
  ∀ H', Same H H' → Q (.bl true) H'
def spJoined (K : PySem.W.Frag) (C : Addr) : Sp := fun vs H Q _ => ∃ (s1 s2 s3 : Addr) (v1 r1 v2 r2 v3 r3 : Rat), vs = [.ref s1, .ref s2, .ref s3] ∧ SrcAt K C H s1 v1 r1 ∧ SrcAt K C H s2 v2 r2 ∧ SrcAt K C H s3 v3 r3 ∧
  Sz 40 v1 ∧ Sz 40 r1 ∧ Sz 40 v2 ∧ Sz 40 r2 ∧ Sz 40 v3 ∧ Sz 40 r3 ∧ 0 < r1 ∧ 0 < r2 ∧ 0 < r3 ∧ ∀ H', Same H H' → Q (.bl true) H'
def spCarried (K : PySem.W.Frag) (C : Addr) : Sp := fun vs H Q _ => ∃ (s1 s2 a : Addr) (v1 r1 v2 r2 g : Rat) (m : Int), vs = [.ref s1, .ref s2, .ref a, .int m] ∧ SrcAt K C H s1 v1 r1 ∧ SrcAt K C H s2 v2 r2 ∧ SqT K H a (rat g) ∧
  Sz 40 v1 ∧ Sz 40 r1 ∧ Sz 40 v2 ∧ Sz 40 r2 ∧ Sz 40 g ∧ 0 ≤ g ∧ 0 ≤ m ∧ m.natAbs < 2 ^ 40 ∧ ∀ H', Same H H' → Q (.bl true) H'
theorem ne_zero {p : Rat} (h : 0 < p) : p ≠ 0 := fun z => by rw [z] at h; exact absurd h (by decide)
theorem add_pos {p q : Rat} (hp : 0 < p) (hq : 0 ≤ q) : 0 < p + q := by grind
theorem quot_pos {p q : Rat} (hp : 0 < p) (hq : 0 < q) : 0 < p / q := by
  rw [Rat.div_def]
  exact Rat.mul_pos hp (Rat.inv_pos.mpr hq)
theorem and3v {A B s c z : Rat} (hs : 0 < s) (h : 0 < B / s + c) (h2 : 0 < B + c * s) : (A / s * c + z * (B / s)) / (B / s + c) = (A * c + z * B) / (B + c * s) := by
  have h1 := ne_zero hs
  have h3 := ne_zero h
  have h4 := ne_zero h2
  grind
theorem and3r {B s c : Rat} (hs : 0 < s) (h : 0 < B / s + c) (h2 : 0 < B + c * s) : (B / s * c) / (B / s + c) = (B * c) / (B + c * s) := by
  have h1 := ne_zero hs
  have h3 := ne_zero h
  have h4 := ne_zero h2
  grind
/-- a load is a source of 0 volts behind 1 / g ohms, side by side -/
theorem beside_v {v r g : Rat} (hr : 0 ≤ r) (hg : 0 < g) : v / (1 + r * g) = (v * (1 / g) + 0 * r) / (r + 1 / g) := by
  have h1 := ne_zero hg
  have h2 := ne_zero (one_pos hr (Rat.le_of_lt hg))
  have h3 := ne_zero (show 0 < r + 1 / g from by have := quot_pos (p := 1) (by decide) hg; grind)
  grind
theorem beside_r {r g : Rat} (hr : 0 ≤ r) (hg : 0 < g) : r / (1 + r * g) = r * (1 / g) / (r + 1 / g) := by
  have h1 := ne_zero hg
  have h2 := ne_zero (one_pos hr (Rat.le_of_lt hg))
  have h3 := ne_zero (show 0 < r + 1 / g from by have := quot_pos (p := 1) (by decide) hg; grind)
  grind
theorem beside_v2 {v r g : Rat} (hr : 0 ≤ r) (hg : 0 < g) : v / (1 + r * g) = (0 * r + v * (1 / g)) / (1 / g + r) := by
  rw [beside_v hr hg, Rat.add_comm (0 * r), Rat.add_comm (1 / g) r]
theorem beside_r2 {r g : Rat} (hr : 0 ≤ r) (hg : 0 < g) : r / (1 + r * g) = 1 / g * r / (1 / g + r) := by
  rw [beside_r hr hg, Rat.mul_comm r, Rat.add_comm (1 / g) r]
theorem same_v {v r : Rat} (hr : 0 < r) : (v * r + v * r) / (r + r) = v := by
  have := ne_zero (show 0 < r + r by grind)
  grind
theorem and_comm_v {v r w u : Rat} : (v * u + w * r) / (r + u) = (w * r + v * u) / (u + r) := by rw [Rat.add_comm (v * u), Rat.add_comm r]
theorem and_comm_r {r u : Rat} : r * u / (r + u) = u * r / (u + r) := by rw [Rat.mul_comm r, Rat.add_comm r]
theorem and_assoc_v {v1 r1 v2 r2 v3 r3 : Rat} (p1 : 0 < r1) (p2 : 0 < r2) (p3 : 0 < r3) : ((v1 * r2 + v2 * r1) / (r1 + r2) * r3 + v3 * (r1 * r2 / (r1 + r2))) / (r1 * r2 / (r1 + r2) + r3) = (v1 * (r2 * r3 / (r2 + r3)) + (v2 * r3 + v3 * r2) / (r2 + r3) * r1) / (r1 + r2 * r3 / (r2 + r3)) := by
  have s1 : 0 < r1 + r2 := add_pos p1 (Rat.le_of_lt p2)
  have s2 : 0 < r2 + r3 := add_pos p2 (Rat.le_of_lt p3)
  have q1 : 0 < r1 * r2 / (r1 + r2) + r3 := add_pos (quot_pos (Rat.mul_pos p1 p2) s1) (Rat.le_of_lt p3)
  have q2 : 0 < r2 * r3 / (r2 + r3) + r1 := add_pos (quot_pos (Rat.mul_pos p2 p3) s2) (Rat.le_of_lt p1)
  have t1 : 0 < r1 * r2 + r3 * (r1 + r2) := add_pos (Rat.mul_pos p1 p2) (Rat.le_of_lt (Rat.mul_pos p3 s1))
  have t2 : 0 < r2 * r3 + r1 * (r2 + r3) := add_pos (Rat.mul_pos p2 p3) (Rat.le_of_lt (Rat.mul_pos p1 s2))
  rw [and3v s1 q1 t1, Rat.add_comm (v1 * (r2 * r3 / (r2 + r3))), Rat.add_comm r1 (r2 * r3 / (r2 + r3)), and3v s2 q2 t2]
  have e1 : (v1 * r2 + v2 * r1) * r3 + v3 * (r1 * r2) = (v2 * r3 + v3 * r2) * r1 + v1 * (r2 * r3) := by grind
  have e2 : r1 * r2 + r3 * (r1 + r2) = r2 * r3 + r1 * (r2 + r3) := by grind
  rw [e1, e2]
theorem and_assoc_r {r1 r2 r3 : Rat} (p1 : 0 < r1) (p2 : 0 < r2) (p3 : 0 < r3) : r1 * r2 / (r1 + r2) * r3 / (r1 * r2 / (r1 + r2) + r3) = r1 * (r2 * r3 / (r2 + r3)) / (r1 + r2 * r3 / (r2 + r3)) := by
  have s1 : 0 < r1 + r2 := add_pos p1 (Rat.le_of_lt p2)
  have s2 : 0 < r2 + r3 := add_pos p2 (Rat.le_of_lt p3)
  have q1 : 0 < r1 * r2 / (r1 + r2) + r3 := add_pos (quot_pos (Rat.mul_pos p1 p2) s1) (Rat.le_of_lt p3)
  have q2 : 0 < r2 * r3 / (r2 + r3) + r1 := add_pos (quot_pos (Rat.mul_pos p2 p3) s2) (Rat.le_of_lt p1)
  have t1 : 0 < r1 * r2 + r3 * (r1 + r2) := add_pos (Rat.mul_pos p1 p2) (Rat.le_of_lt (Rat.mul_pos p3 s1))
  have t2 : 0 < r2 * r3 + r1 * (r2 + r3) := add_pos (Rat.mul_pos p2 p3) (Rat.le_of_lt (Rat.mul_pos p1 s2))
  rw [and3r s1 q1 t1, Rat.mul_comm r1 (r2 * r3 / (r2 + r3)), Rat.add_comm r1 (r2 * r3 / (r2 + r3)), and3r s2 q2 t2]
  have e1 : r1 * r2 * r3 = r2 * r3 * r1 := by grind
  have e2 : r1 * r2 + r3 * (r1 + r2) = r2 * r3 + r1 * (r2 + r3) := by grind
  rw [e1, e2]
theorem Sz.andV {j : Nat} {v r w u : Rat} (h1 : Sz j v) (h2 : Sz j r) (h3 : Sz j w) (h4 : Sz j u) (h : 0 < r + u) : Sz (8 * j + 2) ((v * u + w * r) / (r + u)) :=
  ((((h1.mul h4).add (h3.mul h2)).mono (k := 4 * j + 1) (by omega)).div ((h2.add h4).mono (by omega)) h).mono (by omega)
theorem Sz.andR {j : Nat} {r u : Rat} (h2 : Sz j r) (h4 : Sz j u) (h : 0 < r + u) : Sz (8 * j + 2) (r * u / (r + u)) :=
  (((h2.mul h4).mono (k := 4 * j + 1) (by omega)).div ((h2.add h4).mono (by omega)) h).mono (by omega)
theorem strong_same {v r : Rat} (hv : 0 ≤ v) (hr : 0 < r) : strong ((v * r + v * r) / (r + r)) (r * r / (r + r)) v r = true := by
  rw [same_v hr]
  refine strong_iff.mpr ⟨Rat.le_refl, Rat.mul_le_mul_of_nonneg_left ?_ hv⟩
  have h1 := ne_zero (show 0 < r + r by grind)
  have e : r * r / (r + r) = r / 2 := by grind
  rw [e]
  grind
theorem frac_mul {a b c d : Rat} (hb : 0 < b) (hd : 0 < d) : a / b * (c / d) = a * c * (1 / (b * d)) := by
  have h1 := ne_zero hb
  have h2 := ne_zero hd
  grind
theorem strong_under {v r w u g : Rat} (h : strong v r w u = true) (hr : 0 ≤ r) (hu : 0 ≤ u) (hg : 0 ≤ g) : strong (v / (1 + r * g)) (r / (1 + r * g)) (w / (1 + u * g)) (u / (1 + u * g)) = true := by
  refine strong_iff.mpr ⟨Rat.not_lt.mp (due_read h hr hu hg), ?_⟩
  have p1 := one_pos hr hg
  have p2 := one_pos hu hg
  rw [frac_mul p2 p1, frac_mul p1 p2, Rat.mul_comm (1 + u * g)]
  exact Rat.mul_le_mul_of_nonneg_right (strong_iff.mp h).2 (Rat.le_of_lt (quot_pos (by decide) (Rat.mul_pos p1 p2)))
theorem strong_many {v r w u m : Rat} (h : strong v r w u = true) (hm : 0 ≤ m) : strong (v * m) r (w * m) u = true := by
  obtain ⟨h1, h2⟩ := strong_iff.mp h
  refine strong_iff.mpr ⟨Rat.mul_le_mul_of_nonneg_right h1 hm, ?_⟩
  have := Rat.mul_le_mul_of_nonneg_right h2 hm
  have e1 : w * m * r = w * r * m := by grind
  have e2 : v * m * u = v * u * m := by grind
  rw [e1, e2]
  exact this
theorem forq_range {lo : Int} {n : Nat} {g : TG} {tb : TS} {D : Ends} {σ : L2.St} {H : Hp} (Pv : Nat → L2.St → Hp → Prop) (h0 : Pv 0 σ H) (hs : ∀ i σ H, i < n → Pv i σ H → g (.int (lo + i)) σ H fun σ2 H2 => tb { D with nx := Pv (i + 1), ct := Pv (i + 1), bk := D.nx } σ2 H2) (hd : ∀ σ H, Pv n σ H → D.nx σ H) : ForQ (Itr lo n) g tb D σ H := for_range Pv h0 hs hd
theorem num_pos {p : Rat} (h : 0 < p.num) : 0 < p := by
  refine (Rat.lt_iff 0 p).mpr ?_
  simpa using h
/-- a source of ohms above 0 -/
def Src4 (K : PySem.W.Frag) (C : Addr) (H : Hp) (x : V) : Prop := ∃ s v r, x = .ref s ∧ SrcAt K C H s v r ∧ Sz 40 v ∧ Sz 40 r ∧ 0 < r
/-- a ratio above 0 -/
def Rat4 (K : PySem.W.Frag) (H : Hp) (x : V) : Prop := ∃ a g, x = .ref a ∧ SqT K H a (rat g) ∧ Sz 20 g ∧ 0 < g
section
variable {K : PySem.W.Frag} {C p : Addr} {H H' : Hp} {x : V} {n : Int} {ys : List V}
theorem Src4.same (h : Src4 K C H x) (S : Same H H') : Src4 K C H' x := by
  obtain ⟨s, v, r, e, h1, h2⟩ := h
  exact ⟨s, v, r, e, h1.same S, h2⟩
theorem Src4.but (h : Src4 K C H x) (hP : Pot H p n) (B : But p H H') : Src4 K C H' x := by
  obtain ⟨s, v, r, e, h1, h2⟩ := h
  exact ⟨s, v, r, e, h1.but hP B, h2⟩
theorem Src4.butL (h : Src4 K C H x) (hp : H p = some (.lst ys)) (B : But p H H') : Src4 K C H' x := by
  obtain ⟨s, v, r, e, h1, h2⟩ := h
  exact ⟨s, v, r, e, h1.butL hp B, h2⟩
theorem Rat4.same (h : Rat4 K H x) (S : Same H H') : Rat4 K H' x := by
  obtain ⟨a, g, e, h1, h2⟩ := h
  exact ⟨a, g, e, S.seqT h1, h2⟩
theorem Rat4.but (h : Rat4 K H x) (hP : Pot H p n) (B : But p H H') : Rat4 K H' x := by
  obtain ⟨a, g, e, h1, h2⟩ := h
  exact ⟨a, g, e, hP.but B h1, h2⟩
theorem Rat4.butL (h : Rat4 K H x) (hp : H p = some (.lst ys)) (B : But p H H') : Rat4 K H' x := by
  obtain ⟨a, g, e, h1, h2⟩ := h
  exact ⟨a, g, e, seqT_but hp B h1, h2⟩
end
theorem under_two {q v r g h : Rat} (hr : 0 ≤ r) (hg : 0 ≤ g) (hh : 0 ≤ h) : q / (1 + r * g) / (1 + r / (1 + r * g) * h) = q / (1 + r * (g + h)) := by
  have p1 := one_pos hr hg
  have h1 := ne_zero p1
  have h2 := ne_zero (one_pos (div_nn hr p1) hh)
  have h3 := ne_zero (one_pos hr (add_nn hg hh))
  grind
theorem under_zero {v r : Rat} : v / (1 + r * 0) = v := by grind
theorem under_firm {v g : Rat} : v / (1 + 0 * g) = v := by grind
theorem many_at {v r g m : Rat} : v * m / (1 + r * g) = m * (v / (1 + r * g)) := by grind
theorem and_firm_v {v r : Rat} (hr : 0 < r) : (v * 0 + v * r) / (r + 0) = v := by
  have := ne_zero hr
  grind
theorem and_firm_r {r : Rat} (hr : 0 < r) : r * 0 / (r + 0) = 0 := by
  have := ne_zero hr
  grind
theorem strong_firm {v r : Rat} (hv : 0 ≤ v) (hr : 0 ≤ r) : strong v 0 v r = true := by
  refine strong_iff.mpr ⟨Rat.le_refl, ?_⟩
  have := Rat.mul_nonneg hv hr
  grind
end My

/-! own layer: what the readers of benches promise -/
namespace My
open PySem PySem.Spec PyProof.Rows L2 TL
/-! ### data -/
def ratD (q : Rat) : PyData := .tuple [.int q.num, .int (q.den : Int)]
def optD : Option Rat → PyData
  | none => .none
  | some q => ratD q
def rowD (r : Row) : PyData := .tuple [.str r.n, ratD r.G, ratD r.S, optD r.D, optD r.U]
def loadD (l : Str × Rat) : PyData := .tuple [.str l.1, ratD l.2]
theorem noL_rat (q : Rat) : noL (ratD q) = true := rfl
theorem noL_opt (o : Option Rat) : noL (optD o) = true := by cases o <;> rfl
theorem noL_row (r : Row) : noL (rowD r) = true := by
  show (true && (noL (ratD r.G) && (noL (ratD r.S) && (noL (optD r.D) && (noL (optD r.U) && true))))) = true
  rw [noL_rat, noL_rat, noL_opt, noL_opt]; rfl
theorem noL_map {α : Type} {f : α → PyData} (h : ∀ a, noL (f a) = true) : ∀ l : List α, noLAll (l.map f) = true
  | [] => rfl
  | a :: l => by
    show (noL (f a) && noLAll (l.map f)) = true
    rw [h a, noL_map h l]; rfl
section
variable {K : PySem.W.Frag} {H H' : Hp} {a : Addr} {v : V}
theorem dp_rat {q : Rat} (h : SqT K H a (rat q)) : Dp K H (.ref a) (ratD q) := .tup h (.cons (.int _) (.cons (.int _) .nil))
theorem rat_dp {q : Rat} (h : Dp K H v (ratD q)) : ∃ a, v = .ref a ∧ SqT K H a (rat q) := by
  obtain ⟨a, xs, rfl, h1, h2⟩ := dp_tup h
  obtain ⟨x, ws, rfl, hx, h2⟩ := dpAll_cons h2
  obtain ⟨y, ws, rfl, hy, h2⟩ := dpAll_cons h2
  have := dpAll_nil h2; subst this
  have := dp_int hx; subst this
  have := dp_int hy; subst this
  exact ⟨a, rfl, h1⟩
theorem row_dp {r : Row} (h : Dp K H v (rowD r)) : ∃ a g s d u, v = .ref a ∧ SqT K H a [.str r.n, g, s, d, u] ∧ Dp K H g (ratD r.G) ∧ Dp K H s (ratD r.S) ∧ Dp K H d (optD r.D) ∧ Dp K H u (optD r.U) := by
  obtain ⟨a, xs, rfl, h1, h2⟩ := dp_tup h
  obtain ⟨n, ws, rfl, hn, h2⟩ := dpAll_cons h2
  obtain ⟨g, ws, rfl, hg, h2⟩ := dpAll_cons h2
  obtain ⟨s, ws, rfl, hs, h2⟩ := dpAll_cons h2
  obtain ⟨d, ws, rfl, hd, h2⟩ := dpAll_cons h2
  obtain ⟨u, ws, rfl, hu, h2⟩ := dpAll_cons h2
  have := dpAll_nil h2; subst this
  have := dp_str hn; subst this
  exact ⟨a, g, s, d, u, rfl, h1, hg, hs, hd, hu⟩
theorem dp_row {r : Row} {g s d u : V} (h1 : SqT K H a [.str r.n, g, s, d, u]) (hg : Dp K H g (ratD r.G)) (hs : Dp K H s (ratD r.S)) (hd : Dp K H d (optD r.D)) (hu : Dp K H u (optD r.U)) : Dp K H (.ref a) (rowD r) :=
  .tup h1 (.cons (.str _) (.cons hg (.cons hs (.cons hd (.cons hu .nil)))))
theorem load_dp {l : Str × Rat} (h : Dp K H v (loadD l)) : ∃ a g, v = .ref a ∧ SqT K H a [.str l.1, g] ∧ Dp K H g (ratD l.2) := by
  obtain ⟨a, xs, rfl, h1, h2⟩ := dp_tup h
  obtain ⟨n, ws, rfl, hn, h2⟩ := dpAll_cons h2
  obtain ⟨g, ws, rfl, hg, h2⟩ := dpAll_cons h2
  have := dpAll_nil h2; subst this
  have := dp_str hn; subst this
  exact ⟨a, g, rfl, h1, hg⟩
theorem opt_dp {o : Option Rat} (h : Dp K H v (optD o)) : (o = none ∧ v = .non) ∨ ∃ q a, o = some q ∧ v = .ref a ∧ SqT K H a (rat q) := by
  cases o with
  | none => exact .inl ⟨rfl, dp_non h⟩
  | some q => obtain ⟨a, e, h2⟩ := rat_dp h; exact .inr ⟨q, a, rfl, e, h2⟩
end
/-! ### promises -/
def spIsName : Sp := fun vs H Q _ => ∃ n, vs = [.str n] ∧ NmOk n ∧ ∀ H', Same H H' → Q (.bl true) H'
def spWhole : Sp := fun vs H Q _ => ∃ n : Nat, vs = [.str (nS n)] ∧ n < 100000 ∧ Q (.int n) H
def spRatioOf : Sp := fun vs H Q _ => ∃ q, vs = [.str (rT q)] ∧ RatOk q ∧ ∀ p H', Same H H' → H p = none → H' p = some (.tup (rat q)) → Q (.ref p) H'
def spLineAt (K : PySem.W.Frag) : Sp := fun vs H Q _ => ∃ (a : Addr) (i : Nat) (ls : List Str), vs = [.ref a, .int i] ∧ SqL K H a (ls.map V.str) ∧ Q (.str (ls.getD i "")) H
/-- N of a line of it, else 0 -/
def spreadNum (l : Str) : Nat := ((List.range 20).find? fun k => decide (l = spreadLine (k + 1))).elim 0 (· + 1)
def spSpreadOf : Sp := fun vs H Q _ => ∃ l : Str, vs = [.str l] ∧ Q (.int (spreadNum l)) H
def spRangeOf (K : PySem.W.Frag) : Sp := fun vs H Q _ => ∃ (r : Row) (a : Addr) (xs : List V) (ahead : List Row), vs = [.str (rowLine r), .ref a] ∧ H a = some (.lst xs) ∧ DpAll K H xs (ahead.map rowD) ∧ RowOk r ahead ∧ ahead.length ≤ 3 ∧ (r.U ≠ none → ahead.length < 3) ∧
  ∀ p H', Same H H' → H p = none → Dp K H' (.ref p) (rowD r) → Q (.ref p) H'
/-- a dict's pairs by names -/
abbrev KP {α : Type} (R : V → α → Prop) : List (Key × V) → List (Str × α) → Prop := Paired fun (kv : Key × V) (l : Str × α) => kv.1 = Sum.inr l.1 ∧ R kv.2 l.2
section
variable {α : Type} {R S : V → α → Prop} {kvs : List (Key × V)} {ls : List (Str × α)} {k : Str} {a : α} {v : V}
theorem KP.imp (h : KP R kvs ls) (f : ∀ v a, R v a → S v a) : KP S kvs ls := Paired.mapP h fun _ _ p => ⟨p.1, f _ _ p.2⟩
theorem KP.get (h : KP R kvs ls) (nd : (ls.map (·.1)).Nodup) (hm : (k, a) ∈ ls) : ∃ v, valV kvs (.inr k) = some v ∧ R v a := by
  induction h with
  | nil => cases hm
  | @cons x y xs ys r t ih =>
    rw [List.map_cons, List.nodup_cons] at nd
    rcases List.mem_cons.mp hm with rfl | hm
    · exact ⟨x.2, valV_pos r.1, r.2⟩
    · have hne : ¬ x.1 = Sum.inr k := fun z => nd.1 (by
        have : y.1 = k := Sum.inr.inj (r.1.symm.trans z)
        rw [this]
        exact List.mem_map.mpr ⟨_, hm, rfl⟩)
      rw [valV_neg hne]
      exact ih nd.2 hm
theorem KP.no (h : KP R kvs ls) (hn : k ∉ ls.map (·.1)) : valV kvs (.inr k) = none := by
  induction h with
  | nil => rfl
  | @cons x y xs ys r t ih =>
    rw [List.map_cons, List.mem_cons, not_or] at hn
    have hne : ¬ x.1 = Sum.inr k := fun z => hn.1 (Sum.inr.inj (r.1.symm.trans z)).symm
    rw [valV_neg hne]
    exact ih hn.2
theorem KP.snoc (h : KP R kvs ls) (r : R v a) : KP R (kvs ++ [(Sum.inr k, v)]) (ls ++ [(k, a)]) := by
  induction h with
  | nil => exact .cons ⟨rfl, r⟩ .nil
  | cons q _ ih => exact .cons q ih
theorem KP.put (h : KP R kvs ls) (hn : k ∉ ls.map (·.1)) (r : R v a) : KP R (putK kvs (.inr k) v) (ls ++ [(k, a)]) := by
  rw [putK_new v (h.no hn)]
  exact h.snoc r
theorem KP.at_ (h : KP R kvs ls) {i : Nat} {l : Str × α} (e : ls[i]? = some l) : ∃ v, kvs[i]? = some (Sum.inr l.1, v) ∧ R v l.2 := by
  induction h generalizing i with
  | nil => simp at e
  | @cons x y xs ys r t ih =>
    cases i with
    | zero =>
      simp only [List.getElem?_cons_zero, Option.some.injEq] at e
      subst e
      exact ⟨x.2, by rw [List.getElem?_cons_zero, ← r.1], r.2⟩
    | succ j =>
      simp only [List.getElem?_cons_succ] at e ⊢
      exact ih e
theorem KP.len (h : KP R kvs ls) : kvs.length = ls.length := Paired.length h
end
/-- a meter as it is read: its rows in a list -/
def RawR (K : PySem.W.Frag) (H : Hp) (v : V) (rows : List Row) : Prop := ∃ b xs, v = .ref b ∧ H b = some (.lst xs) ∧ DpAll K H xs (rows.map rowD)
def MOk (m : Str × List Row) : Prop := NmOk m.1 ∧ m.2 ≠ [] ∧ m.2.length ≤ 4 ∧ RowsOk [] m.2
def spReadMeter (K : PySem.W.Frag) : Sp := fun vs H Q _ => ∃ (a d : Addr) (i : Nat) (ls rest : List Str) (kvs : List (Key × V)) (m : Str × List Row), vs = [.ref a, .int i, .ref d] ∧ SqL K H a (ls.map V.str) ∧ ls.length < 1000 ∧ ls.drop i = meterLines m ++ rest ∧
  H d = some (.dK kvs) ∧ valV kvs (.inr m.1) = none ∧ MOk m ∧
  ∀ p b H' xs, Same H H' → H p = none → H b = none → H' p = some (.tup [.str m.1, .ref b, .int ((i + 1 + m.2.length : Nat) : Int)]) → H' b = some (.lst xs) → DpAll K H' xs (m.2.map rowD) → Q (.ref p) H'
def spReadMeters (K : PySem.W.Frag) : Sp := fun vs H Q _ => ∃ (a : Addr) (i : Nat) (ls : List Str) (ms : List (Str × List Row)) (lds : List (Str × Rat)), vs = [.ref a, .int i] ∧ SqL K H a (ls.map V.str) ∧ ls.length < 1000 ∧ ls.drop i = ms.flatMap meterLines ++ lds.map loadLine ∧
  1 ≤ ms.length ∧ ms.length ≤ 3 ∧ (∀ m ∈ ms, MOk m) ∧ (ms.map (·.1)).Nodup ∧ (∀ l ∈ lds, NmOk l.1) ∧
  ∀ p d H' kvs, Same H H' → H p = none → H d = none → H' p = some (.tup [.ref d, .int ((i + (ms.flatMap meterLines).length : Nat) : Int)]) → H' d = some (.dK kvs) → KP (RawR K H') kvs ms → Q (.ref p) H'
def LdR (K : PySem.W.Frag) (H : Hp) (v : V) (q : Rat) : Prop := Dp K H v (ratD q)
def spReadLoads (K : PySem.W.Frag) : Sp := fun vs H Q _ => ∃ (a : Addr) (i : Nat) (ls : List Str) (lds : List (Str × Rat)), vs = [.ref a, .int i] ∧ SqL K H a (ls.map V.str) ∧ ls.length < 1000 ∧ ls.drop i = lds.map loadLine ∧ i ≤ ls.length ∧
  lds.length ≤ 2 ∧ (∀ l ∈ lds, NmOk l.1 ∧ RatOk l.2) ∧ (lds.map (·.1)).Nodup ∧
  ∀ d H' kvs, Same H H' → H d = none → H' d = some (.dK kvs) → KP (LdR K H') kvs lds → Q (.ref d) H'
/-- the threshold that counts -/
def lowQ (s : Nat) (q : Rat) : Rat := q * (((20 - s : Int) : Rat) / ((20 : Int) : Rat))
def lowR (s : Nat) (r : Row) : Row := { r with D := r.D.map (lowQ s) }
def spLowered (K : PySem.W.Frag) : Sp := fun vs H Q _ => ∃ (b : Addr) (s : Nat) (xs : List V) (rows : List Row), vs = [.ref b, .int s] ∧ H b = some (.lst xs) ∧ DpAll K H xs (rows.map rowD) ∧ s ≤ 20 ∧ rows.length ≤ 4 ∧ (∀ r ∈ rows, ∀ q, r.D = some q → RatOk q) ∧
  ∀ p H', Same H H' → H p = none → Dp K H' (.ref p) (.tuple (rows.map fun r => rowD (lowR s r))) → Q (.ref p) H'
/-! ### merging -/
def mrg : List PyData → List PyData → List PyData
  | [], bs => bs
  | a :: as, [] => a :: as
  | a :: as, b :: bs => if PySem.W.dataLt b a then b :: mrg (a :: as) bs else a :: mrg as (b :: bs)
termination_by as bs => as.length + bs.length
/-- the sorting of a list by halves, n calls deep -/
def srt : Nat → List PyData → List PyData
  | 0, ds => ds
  | n + 1, ds => if ds.length < 2 then ds else mrg (srt n (ds.take (ds.length / 2))) (srt n (ds.drop (ds.length / 2)))
/-- data of one form, so that any two can be compared -/
def Form (ds : List PyData) : Prop := ∀ a ∈ ds, ∀ b ∈ ds, PySem.W.alike a b = true ∧ a ≠ .none ∧ a.depth < 60
def spMerged (K : PySem.W.Frag) : Sp := fun vs H Q _ => ∃ (a b : Addr) (ds es : List PyData), vs = [.ref a, .ref b] ∧ Dp K H (.ref a) (.tuple ds) ∧ Dp K H (.ref b) (.tuple es) ∧ noLAll ds = true ∧ noLAll es = true ∧ Form (ds ++ es) ∧ ds.length + es.length ≤ 1000 ∧
  ∀ p H', Same H H' → Dp K H' (.ref p) (.tuple (mrg ds es)) → Q (.ref p) H'
def spAsc (K : PySem.W.Frag) (n : Nat) : Sp := fun vs H Q _ => ∃ (a : Addr) (xs : List V) (ds : List PyData), vs = [.ref a] ∧ SqL K H a xs ∧ DpAll K H xs ds ∧ noLAll ds = true ∧ Form ds ∧ ds.length ≤ 2 ^ n ∧ ds.length ≤ 1000 ∧
  ∀ p H', Same H H' → Dp K H' (.ref p) (.tuple (srt n ds)) → Q (.ref p) H'
/-! ### settings -/
def namesD (ns : List Str) : PyData := .tuple (ns.map .str)
def settingD (s : List Str × List Str) : PyData := .tuple [namesD s.1, namesD s.2]
def placesOf : List (Str × List Row) → List (List Str)
  | ms => ms.foldl (fun ps m => ps.flatMap fun p => m.2.map fun r => p ++ [r.n]) [[]]
def choicesOf (ls : List (Str × Rat)) : List (List Str) := ls.foldl (fun cs l => cs ++ cs.map fun c => c ++ [l.1]) [[]]
def rawSettings (L : Lore) : List (List Str × List Str) := (placesOf L.meters).flatMap fun p => (choicesOf L.loads).map fun c => (p, c)
def settingsD (L : Lore) : PyData := .tuple (srt 8 ((rawSettings L).map settingD))
/-- a meter of a bench: its name by its rows, the thresholds that count -/
def BenR (K : PySem.W.Frag) (H : Hp) (s : Nat) (v : V) (rows : List Row) : Prop := Dp K H v (.tuple (rows.map fun r => rowD (lowR s r)))
def spSettings (K : PySem.W.Frag) : Sp := fun vs H Q _ => ∃ (rd ld : Addr) (kvs lks : List (Key × V)) (L : Lore), vs = [.ref rd, .ref ld] ∧ H rd = some (.dK kvs) ∧ H ld = some (.dK lks) ∧ KP (BenR K H L.spread) kvs L.meters ∧ KP (LdR K H) lks L.loads ∧ LoreOk L ∧ rd ≠ ld ∧
  ∀ p H', Same H H' → Dp K H' (.ref p) (settingsD L) → Q (.ref p) H'
def benF (t : Str) (s : Nat) (rd ld : Addr) (st : V) : List (Str × V) := [("_text", .str t), ("_spread", .int s), ("_ranges", .ref rd), ("_loads", .ref ld), ("_settings", st)]
def BenAt (K : PySem.W.Frag) (C : Addr) (H : Hp) (b : Addr) (L : Lore) : Prop := ∃ dx rd ld st kvs lks, H b = some (.ins C dx (benF (textOf L) L.spread rd ld st)) ∧ H rd = some (.dK kvs) ∧ H ld = some (.dK lks) ∧ KP (BenR K H L.spread) kvs L.meters ∧ KP (LdR K H) lks L.loads ∧ Dp K H st (settingsD L) ∧ rd ≠ ld
def spBenInit (K : PySem.W.Frag) (C : Addr) : Sp := fun vs H Q _ => ∃ (x dx : Addr) (L : Lore), vs = [.ref x, .str (textOf L)] ∧ H x = some (.ins C dx []) ∧ LoreOk L ∧ ∀ H', But x H H' → BenAt K C H' x L → Q .non H'
/-! ### what a line of a range tells -/
def optT (w : Str) : Option Rat → List (Str × Rat)
  | none => []
  | some q => [(w, q)]
def tells (r : Row) : List (Str × Rat) := [(("load" : Str), r.G), (("unit" : Str), r.S)] ++ (optT "down" r.D ++ optT "up" r.U)
theorem tells_words (r : Row) : rowWords r = ([("" : Str), ("" : Str), ("range" : Str), r.n] : List Str) ++ (tells r).flatMap fun t => [t.1, rT t.2] := by
  unfold rowWords tells
  cases r.D <;> cases r.U <;> rfl
theorem tells_nd (r : Row) : ((tells r).map (·.1)).Nodup := by
  unfold tells
  cases r.D <;> cases r.U
  · show ([("load" : Str), ("unit" : Str)] : List Str).Nodup
    decide +kernel
  · show ([("load" : Str), ("unit" : Str), ("up" : Str)] : List Str).Nodup
    decide +kernel
  · show ([("load" : Str), ("unit" : Str), ("down" : Str)] : List Str).Nodup
    decide +kernel
  · show ([("load" : Str), ("unit" : Str), ("down" : Str), ("up" : Str)] : List Str).Nodup
    decide +kernel
theorem pick_eq {xs : List V} {lo hi st : Option Int} {n : Nat} {is : List Nat} (hl : xs.length = n) (h : sliceRange (sliceBounds lo hi st n).1 (sliceBounds lo hi st n).2.1 (sliceBounds lo hi st n).2.2 = is) : pickV xs lo hi st = is.filterMap (xs[·]?) := by
  unfold pickV
  rw [hl, h]
theorem tells_marks (r : Row) : pickV ((rowWords r).map V.str) (some 4) none (some 2) = ((tells r).map (·.1)).map V.str := by
  unfold rowWords tells
  cases r.D <;> cases r.U
  · exact (pick_eq (n := 8) (is := [4, 6]) rfl (by decide +kernel)).trans rfl
  · exact (pick_eq (n := 10) (is := [4, 6, 8]) rfl (by decide +kernel)).trans rfl
  · exact (pick_eq (n := 10) (is := [4, 6, 8]) rfl (by decide +kernel)).trans rfl
  · exact (pick_eq (n := 12) (is := [4, 6, 8, 10]) rfl (by decide +kernel)).trans rfl
theorem tells_figs (r : Row) : pickV ((rowWords r).map V.str) (some 5) none (some 2) = ((tells r).map fun t => rT t.2).map V.str := by
  unfold rowWords tells
  cases r.D <;> cases r.U
  · exact (pick_eq (n := 8) (is := [5, 7]) rfl (by decide +kernel)).trans rfl
  · exact (pick_eq (n := 10) (is := [5, 7, 9]) rfl (by decide +kernel)).trans rfl
  · exact (pick_eq (n := 10) (is := [5, 7, 9]) rfl (by decide +kernel)).trans rfl
  · exact (pick_eq (n := 12) (is := [5, 7, 9, 11]) rfl (by decide +kernel)).trans rfl
theorem tells_len (r : Row) : 2 ≤ (tells r).length ∧ (tells r).length ≤ 4 ∧ (rowWords r).length = 4 + 2 * (tells r).length := by
  unfold rowWords tells
  cases r.D <;> cases r.U <;> simp [optW, optT]
theorem tells_ok {r : Row} {ahead : List Row} (h : RowOk r ahead) : ∀ t ∈ tells r, RatOk t.2 ∧ (t.1 = ("unit" : Str) ∨ t.1 = ("up" : Str) → 0 < t.2) := by
  intro t ht
  unfold tells at ht
  simp only [List.mem_append, List.mem_cons, List.not_mem_nil, or_false] at ht
  rcases ht with (rfl | rfl) | ht | ht
  · refine ⟨h.g, fun z => ?_⟩
    rcases z with z | z
    · exact absurd (show ("load" : Str) = "unit" from z) (by decide +kernel)
    · exact absurd (show ("load" : Str) = "up" from z) (by decide +kernel)
  · exact ⟨h.s, fun _ => h.s0⟩
  · cases e : r.D with
    | none => rw [e] at ht; cases ht
    | some q =>
      rw [e] at ht
      rw [List.mem_singleton.mp ht]
      refine ⟨?_, fun z => ?_⟩
      · by_cases ha : ahead = []
        · rw [h.d.1 ha] at e; cases e
        · obtain ⟨q', e2, hq⟩ := h.d.2 ha
          rw [e] at e2
          cases e2
          exact hq
      · rcases z with z | z
        · exact absurd (show ("down" : Str) = "unit" from z) (by decide +kernel)
        · exact absurd (show ("down" : Str) = "up" from z) (by decide +kernel)
  · cases e : r.U with
    | none => rw [e] at ht; cases ht
    | some q =>
      rw [e] at ht
      rw [List.mem_singleton.mp ht]
      obtain ⟨a, b⟩ := h.u q e
      exact ⟨a, fun _ => b⟩
theorem tells_D {r : Row} {q : Rat} (h : r.D = some q) : (("down" : Str), q) ∈ tells r := by
  unfold tells
  rw [h]
  simp [optT]
theorem tells_U {r : Row} {q : Rat} (h : r.U = some q) : (("up" : Str), q) ∈ tells r := by
  unfold tells
  rw [h]
  simp [optT]
theorem tells_noU {r : Row} (h : r.U = none) : ("up" : Str) ∉ (tells r).map (·.1) := by
  unfold tells
  rw [h]
  cases r.D
  · show ("up" : Str) ∉ ([("load" : Str), ("unit" : Str)] : List Str)
    decide +kernel
  · show ("up" : Str) ∉ ([("load" : Str), ("unit" : Str), ("down" : Str)] : List Str)
    decide +kernel
theorem tells_noD {r : Row} (h : r.D = none) : ("down" : Str) ∉ (tells r).map (·.1) := by
  unfold tells
  rw [h]
  cases r.U
  · show ("down" : Str) ∉ ([("load" : Str), ("unit" : Str)] : List Str)
    decide +kernel
  · show ("down" : Str) ∉ ([("load" : Str), ("unit" : Str), ("up" : Str)] : List Str)
    decide +kernel
theorem tells_G (r : Row) : (("load" : Str), r.G) ∈ tells r := by
  unfold tells
  simp
theorem tells_S (r : Row) : (("unit" : Str), r.S) ∈ tells r := by
  unfold tells
  simp
def spInSeq (K : PySem.W.Frag) : Sp := fun vs H Q _ => ∃ (d a : Addr) (kvs : List (Key × V)) (r : Row) (t q : Rat), vs = [.ref d, .ref a] ∧ H d = some (.dK kvs) ∧ KP (LdR K H) kvs (tells r) ∧ SqT K H a (rat t) ∧ RatOk t ∧ r.D = some q ∧ q ≤ t ∧ RatOk q ∧ (∀ q, r.U = some q → RatOk q ∧ t < q) ∧ Q (.bl true) H
/-- the marks that are asked for behind these rows -/
def marksOf (ahead : List Row) : List Str := if ahead.isEmpty then ["load", "unit"] else ["load", "unit", "down"]
theorem marks_plain {r : Row} {ahead : List Row} (h : RowOk r ahead) : (tells r).map (·.1) = marksOf ahead ++ (if r.U.isSome then ([("up" : Str)] : List Str) else []) := by
  unfold tells marksOf
  cases ahead with
  | nil =>
    rw [h.d.1 rfl]
    cases r.U <;> rfl
  | cons a as =>
    obtain ⟨q, e, _⟩ := h.d.2 (by simp)
    rw [e]
    cases r.U <;> rfl
theorem head3 (r : Row) : cutV ((rowWords r).map V.str) none (some 3) = ([("" : Str), ("" : Str), ("range" : Str)] : List Str).map V.str := by
  unfold rowWords
  cases r.D <;> cases r.U <;> rfl
theorem word3 (r : Row) : atI ((rowWords r).map V.str) 3 = some (.str r.n) := by
  unfold rowWords
  cases r.D <;> cases r.U <;> rfl
theorem told_D {K : PySem.W.Frag} {H : Hp} {kvs : List (Key × V)} {r : Row} (h : KP (LdR K H) kvs (tells r)) : ∃ v, (valV kvs (.inr ("down" : Str))).getD .non = v ∧ Dp K H v (optD r.D) := by
  cases e : r.D with
  | none => exact ⟨_, rfl, by rw [h.no (tells_noD e)]; exact .non⟩
  | some q =>
    obtain ⟨v, g, rv⟩ := h.get (tells_nd r) (tells_D e)
    exact ⟨v, by rw [g]; rfl, rv⟩
theorem told_U {K : PySem.W.Frag} {H : Hp} {kvs : List (Key × V)} {r : Row} (h : KP (LdR K H) kvs (tells r)) : ∃ v, (valV kvs (.inr ("up" : Str))).getD .non = v ∧ Dp K H v (optD r.U) := by
  cases e : r.U with
  | none => exact ⟨_, rfl, by rw [h.no (tells_noU e)]; exact .non⟩
  | some q =>
    obtain ⟨v, g, rv⟩ := h.get (tells_nd r) (tells_U e)
    exact ⟨v, by rw [g]; rfl, rv⟩
theorem marksOf_w (ahead : List Row) : ∀ w ∈ marksOf ahead, WOk w := by
  unfold marksOf
  split
  · exact wok_all (by decide +kernel)
  · exact wok_all (by decide +kernel)
theorem tells_w (r : Row) : ∀ w ∈ (tells r).map (·.1), WOk w := by
  unfold tells
  cases r.D <;> cases r.U
  · exact wok_all (ws := ["load", "unit"]) (by decide +kernel)
  · exact wok_all (ws := ["load", "unit", "up"]) (by decide +kernel)
  · exact wok_all (ws := ["load", "unit", "down"]) (by decide +kernel)
  · exact wok_all (ws := ["load", "unit", "down", "up"]) (by decide +kernel)
theorem atI_end {α : Type} {xs : List α} {i : Nat} {v : α} (hl : xs.length = i + 1) (hv : xs[i]? = some v) : atI xs (-1) = some v := by
  have e : ixN xs.length (-1) = some i := by
    unfold ixN
    rw [hl, if_neg (by decide), if_pos (by omega)]
    congr 1
    omega
  unfold atI
  rw [e]
  exact hv
theorem nd_take {ls : List (Str × Rat)} {i : Nat} {t : Str × Rat} (nd : (ls.map (·.1)).Nodup) (h : ls[i]? = some t) : t.1 ∉ (ls.take i).map (·.1) := by
  intro z
  obtain ⟨t', ht', e⟩ := List.mem_map.mp z
  obtain ⟨j, hj⟩ := List.getElem?_of_mem ht'
  rw [List.getElem?_take] at hj
  split at hj
  · rename_i hlt
    have h1 : (ls.map (·.1))[j]? = some t.1 := by rw [List.getElem?_map, hj, ← e]; rfl
    have h2 : (ls.map (·.1))[i]? = some t.1 := by rw [List.getElem?_map, h]; rfl
    have hil : i < (ls.map (·.1)).length := (List.getElem?_eq_some_iff.mp h2).1
    have hjl : j < (ls.map (·.1)).length := (List.getElem?_eq_some_iff.mp h1).1
    have := (List.getElem?_inj hjl nd).mp (h1.trans h2.symm)
    omega
  · cases hj
theorem RowsOk.get : ∀ {rows ahead : List Row} {j : Nat} {r : Row}, RowsOk ahead rows → rows[j]? = some r → RowOk r (ahead ++ rows.take j) ∧ (j + 1 < rows.length → r.U ≠ none) ∧ (j + 1 = rows.length → r.U = none)
  | [], _, _, _, _, e => by simp at e
  | r0 :: rs, ahead, 0, r, h, e => by
    simp only [List.getElem?_cons_zero, Option.some.injEq] at e
    subst e
    obtain ⟨h1, h2, h3, h4⟩ := h
    rw [List.take_zero, List.append_nil]
    refine ⟨h1, fun z => h2 (fun q => ?_), fun z => h3 ?_⟩
    · rw [q] at z; simp at z
    · cases rs with
      | nil => rfl
      | cons _ _ => simp at z
  | r0 :: rs, ahead, j + 1, r, h, e => by
    simp only [List.getElem?_cons_succ] at e
    obtain ⟨h1, h2, h3, h4⟩ := h
    have ih := RowsOk.get h4 e
    rw [List.append_assoc] at ih
    refine ⟨ih.1, fun z => ih.2.1 ?_, fun z => ih.2.2 ?_⟩
    · simp only [List.length_cons] at z; omega
    · simp only [List.length_cons] at z; omega
theorem drop_get {α : Type} {ls ms : List α} {i j : Nat} (h : ls.drop i = ms) : ls[i + j]? = ms[j]? := by rw [← h, List.getElem?_drop]
theorem getD_of {ls : List Str} {i : Nat} {w : Str} (h : ls[i]? = some w) : ls.getD i "" = w := by rw [List.getD_eq_getElem?_getD, h]; rfl
theorem meterLine_split {n : Str} (h : NmOk n) : Txt.split (meterLine n) " " = ([("meter" : Str), n] : List Str) := split_words (by simp) (by
  intro w hw
  simp only [List.mem_cons, List.not_mem_nil, or_false] at hw
  rcases hw with rfl | rfl
  · show 32 ∉ [109, 101, 116, 101, 114]
    decide
  · exact h.free (by decide))
theorem meterLine_le {n : Str} (h : NmOk n) : (meterLine n).length ≤ 20 := by
  refine Nat.le_trans (join_le (k := 8) ?_) (show 2 * 9 ≤ 20 by decide)
  intro w hw
  simp only [List.mem_cons, List.not_mem_nil, or_false] at hw
  rcases hw with rfl | rfl
  · decide +kernel
  · exact h.hi
theorem starts_tl {x y : Str} : Txt.startswith x y = ((tl x).take (tl y).length == tl y) := by
  unfold Txt.startswith
  rw [StrLaws.subAt_eq, List.drop_zero, Nat.zero_add, len_tl x, len_tl y]
  by_cases h : (tl y).length ≤ (tl x).length
  · rw [decide_eq_true h, Bool.true_and]
  · rw [decide_eq_false h, Bool.false_and]
    symm
    rw [beq_eq_false_iff_ne]
    intro z
    have := congrArg List.length z
    rw [List.length_take] at this
    omega
theorem meterLine_tl (n : Str) : tl (meterLine n) = [109, 101, 116, 101, 114, 32] ++ tl n := by
  unfold meterLine
  rw [join_eq, tl_join]
  rfl
theorem starts_meter (n : Str) : Txt.startswith (meterLine n) "meter" = true := by
  rw [starts_tl, meterLine_tl]
  rfl
theorem loadLine_tl (l : Str × Rat) : ∃ r, tl (loadLine l) = 108 :: r := by
  unfold loadLine
  rw [join_eq, tl_join]
  exact ⟨_, rfl⟩
theorem starts_load (l : Str × Rat) : Txt.startswith (loadLine l) "meter" = false := by
  obtain ⟨r, e⟩ := loadLine_tl l
  rw [starts_tl, e, beq_eq_false_iff_ne]
  intro z
  have z : (108 :: r).take 5 = [109, 101, 116, 101, 114] := z
  cases z
theorem starts_empty : Txt.startswith Str.empty "meter" = false := by decide +kernel
theorem flat_at {α β : Type} {f : α → List β} {ms : List α} {j : Nat} (h : j < ms.length) : ms.flatMap f = (ms.take j).flatMap f ++ (f ms[j] ++ (ms.drop (j + 1)).flatMap f) := by
  have e : ms = ms.take j ++ (ms[j] :: ms.drop (j + 1)) := by rw [List.getElem_cons_drop, List.take_append_drop]
  have e2 := congrArg (List.flatMap f) e
  rw [List.flatMap_append, List.flatMap_cons] at e2
  exact e2
theorem drop_at {α : Type} {ls as bs : List α} {i n : Nat} (h : ls.drop i = as ++ bs) (hn : as.length = n) : ls.drop (i + n) = bs := by
  rw [← List.drop_drop, h, ← hn, List.drop_left]
theorem meterLines_len (m : Str × List Row) : (meterLines m).length = 1 + m.2.length := by
  unfold meterLines
  rw [List.length_cons, List.length_map, Nat.add_comm]
theorem RawR.same {K : PySem.W.Frag} {H H' : Hp} {v : V} {rows : List Row} (h : RawR K H v rows) (S : Same H H') : RawR K H' v rows := by
  obtain ⟨b, xs, e, hb, hx⟩ := h
  exact ⟨b, xs, e, S _ _ hb, hx.same S⟩
/-- a dict is changed -/
theorem RawR.butK {K : PySem.W.Frag} {H H' : Hp} {v : V} {rows : List Row} {p : Addr} {kvs : List (Key × V)} (h : RawR K H v rows) (hp : H p = some (.dK kvs)) (B : But p H H') : RawR K H' v rows := by
  obtain ⟨b, xs, e, hb, hx⟩ := h
  exact ⟨b, xs, e, B _ _ (fun z => by rw [z, hp] at hb; cases hb) hb, dpAll_butN hp trivial B (noL_map noL_row _) hx⟩
theorem nd_takeN {α : Type} {ls : List (Str × α)} {i : Nat} {t : Str × α} (nd : (ls.map (·.1)).Nodup) (h : ls[i]? = some t) : t.1 ∉ (ls.take i).map (·.1) := by
  intro z
  obtain ⟨t', ht', e⟩ := List.mem_map.mp z
  obtain ⟨j, hj⟩ := List.getElem?_of_mem ht'
  rw [List.getElem?_take] at hj
  split at hj
  · rename_i hlt
    have h1 : (ls.map (·.1))[j]? = some t.1 := by rw [List.getElem?_map, hj, ← e]; rfl
    have h2 : (ls.map (·.1))[i]? = some t.1 := by rw [List.getElem?_map, h]; rfl
    have hjl : j < (ls.map (·.1)).length := (List.getElem?_eq_some_iff.mp h1).1
    have := (List.getElem?_inj hjl nd).mp (h1.trans h2.symm)
    omega
  · cases hj
theorem loadLine_split {l : Str × Rat} (h : NmOk l.1) : Txt.split (loadLine l) " " = ([("load" : Str), l.1, rT l.2] : List Str) := split_words (by simp) (by
  intro w hw
  simp only [List.mem_cons, List.not_mem_nil, or_false] at hw
  rcases hw with rfl | rfl | rfl
  · show 32 ∉ [108, 111, 97, 100]
    decide
  · exact h.free (by decide)
  · exact rT_free (by decide))
theorem loadLine_le {l : Str × Rat} (h : NmOk l.1) (hq : RatOk l.2) : (loadLine l).length ≤ 30 := by
  refine Nat.le_trans (join_le (k := 9) ?_) (show 3 * 10 ≤ 30 by decide)
  intro w hw
  simp only [List.mem_cons, List.not_mem_nil, or_false] at hw
  rcases hw with rfl | rfl | rfl
  · decide +kernel
  · exact Nat.le_trans h.hi (by decide)
  · exact rT_len hq
theorem noL_low (s : Nat) (r : Row) : noL (rowD (lowR s r)) = true := noL_row _
theorem mrg_nil (bs : List PyData) : mrg [] bs = bs := by rw [mrg]
theorem mrg_nil2 (as : List PyData) : mrg as [] = as := by cases as <;> rw [mrg]
theorem mrg_cons (a b : PyData) (as bs : List PyData) : mrg (a :: as) (b :: bs) = if PySem.W.dataLt b a then b :: mrg (a :: as) bs else a :: mrg as (b :: bs) := by rw [mrg]
theorem mrg_len : ∀ as bs : List PyData, (mrg as bs).length = as.length + bs.length
  | [], bs => by rw [mrg_nil]; simp
  | a :: as, [] => by rw [mrg_nil2]; simp
  | a :: as, b :: bs => by
    rw [mrg_cons]
    split
    · rw [List.length_cons, mrg_len (a :: as) bs]; simp only [List.length_cons]; omega
    · rw [List.length_cons, mrg_len as (b :: bs)]; simp only [List.length_cons]; omega
termination_by as bs => as.length + bs.length
theorem mrg_mem : ∀ as bs : List PyData, ∀ x ∈ mrg as bs, x ∈ as ∨ x ∈ bs
  | [], bs => fun x h => by rw [mrg_nil] at h; exact .inr h
  | a :: as, [] => fun x h => by rw [mrg_nil2] at h; exact .inl h
  | a :: as, b :: bs => fun x h => by
    rw [mrg_cons] at h
    split at h
    · rcases List.mem_cons.mp h with rfl | h
      · exact .inr (List.mem_cons_self ..)
      · rcases mrg_mem (a :: as) bs x h with h | h
        · exact .inl h
        · exact .inr (List.mem_cons_of_mem _ h)
    · rcases List.mem_cons.mp h with rfl | h
      · exact .inl (List.mem_cons_self ..)
      · rcases mrg_mem as (b :: bs) x h with h | h
        · exact .inl (List.mem_cons_of_mem _ h)
        · exact .inr h
termination_by as bs => as.length + bs.length
theorem srt_len : ∀ (n : Nat) (ds : List PyData), (srt n ds).length = ds.length
  | 0, _ => rfl
  | n + 1, ds => by
    rw [srt]
    split
    · rfl
    · rw [mrg_len, srt_len n, srt_len n, List.length_take, List.length_drop]; omega
theorem srt_mem : ∀ (n : Nat) (ds : List PyData), ∀ x ∈ srt n ds, x ∈ ds
  | 0, _ => fun x h => h
  | n + 1, ds => fun x h => by
    rw [srt] at h
    split at h
    · exact h
    · rcases mrg_mem _ _ x h with h | h
      · exact List.mem_of_mem_take (srt_mem n _ x h)
      · exact List.mem_of_mem_drop (srt_mem n _ x h)
theorem noLAll_iff : ∀ ds : List PyData, noLAll ds = true ↔ ∀ d ∈ ds, noL d = true
  | [] => by simp [noLAll]
  | d :: ds => by
    show (noL d && noLAll ds) = true ↔ _
    rw [Bool.and_eq_true, noLAll_iff ds]
    simp
theorem Form.sub {ds es : List PyData} (h : Form ds) (hs : ∀ d ∈ es, d ∈ ds) : Form es := fun a ha b hb => h a (hs a ha) b (hs b hb)
theorem dpAll_drop {K : PySem.W.Frag} {H : Hp} {xs : List V} : ∀ {ds : List PyData} (n : Nat), DpAll K H xs ds → DpAll K H (xs.drop n) (ds.drop n) := by
  intro ds
  induction ds generalizing xs with
  | nil => intro n h; cases h; simp; exact .nil
  | cons d ds ih =>
    intro n h
    cases h with
    | cons h1 h2 =>
      cases n with
      | zero => exact .cons h1 h2
      | succ n => exact ih n h2
theorem dpAll_take {K : PySem.W.Frag} {H : Hp} {xs : List V} : ∀ {ds : List PyData} (n : Nat), DpAll K H xs ds → DpAll K H (xs.take n) (ds.take n) := by
  intro ds
  induction ds generalizing xs with
  | nil => intro n h; cases h; simp; exact .nil
  | cons d ds ih =>
    intro n h
    cases h with
    | cons h1 h2 =>
      cases n with
      | zero => exact .nil
      | succ n => exact .cons h1 (ih n h2)
def spNone : Sp := fun _ _ _ _ => False
theorem srt_few {n : Nat} {ds : List PyData} (h : ds.length < 2) : srt n ds = ds := by
  cases n with
  | zero => rfl
  | succ n => rw [srt, if_pos h]
theorem srt_step {n : Nat} {ds : List PyData} (h : ¬ ds.length < 2) : srt (n + 1) ds = mrg (srt n (ds.take (ds.length / 2))) (srt n (ds.drop (ds.length / 2))) := by rw [srt, if_neg h]
theorem pow2 (n : Nat) : 2 ^ (n + 1) = 2 * 2 ^ n := by rw [Nat.pow_succ, Nat.mul_comm]
/-! ### the settings -/
def stepP (P : List (List Str)) (rows : List Row) : List (List Str) := P.flatMap fun p => rows.map fun r => p ++ [r.n]
def stepC (C : List (List Str)) (n : Str) : List (List Str) := C ++ C.map fun c => c ++ [n]
theorem placesOf_take {ms : List (Str × List Row)} {j : Nat} (h : j < ms.length) : placesOf (ms.take (j + 1)) = stepP (placesOf (ms.take j)) ms[j].2 := by
  unfold placesOf
  rw [List.take_add_one, List.getElem?_eq_getElem h]
  simp only [Option.toList_some, List.foldl_append, List.foldl_cons, List.foldl_nil]
  rfl
theorem choicesOf_take {ls : List (Str × Rat)} {j : Nat} (h : j < ls.length) : choicesOf (ls.take (j + 1)) = stepC (choicesOf (ls.take j)) ls[j].1 := by
  unfold choicesOf
  rw [List.take_add_one, List.getElem?_eq_getElem h]
  simp only [Option.toList_some, List.foldl_append, List.foldl_cons, List.foldl_nil]
  rfl
theorem stepP_len (P : List (List Str)) (rows : List Row) : (stepP P rows).length = P.length * rows.length := by
  unfold stepP
  induction P with
  | nil => simp
  | cons p P ih => rw [List.flatMap_cons, List.length_append, ih, List.length_map, List.length_cons, Nat.succ_mul, Nat.add_comm]
theorem placesOf_bound {ms : List (Str × List Row)} (h : ∀ m ∈ ms, m.2.length ≤ 4) : ∀ j, j ≤ ms.length → (placesOf (ms.take j)).length ≤ 4 ^ j ∧ ∀ p ∈ placesOf (ms.take j), p.length = j := by
  intro j
  induction j with
  | zero => intro _; exact ⟨Nat.le_refl _, fun p hp => by rw [List.mem_singleton.mp hp]; rfl⟩
  | succ j ih =>
    intro hj
    obtain ⟨i1, i2⟩ := ih (by omega)
    rw [placesOf_take hj]
    refine ⟨?_, fun p hp => ?_⟩
    · rw [stepP_len, Nat.pow_succ]
      exact Nat.mul_le_mul i1 (h _ (List.getElem_mem hj))
    · unfold stepP at hp
      obtain ⟨q, hq, hp⟩ := List.mem_flatMap.mp hp
      obtain ⟨r, _, rfl⟩ := List.mem_map.mp hp
      rw [List.length_append, i2 q hq]
      rfl
theorem choicesOf_bound {ls : List (Str × Rat)} : ∀ j, j ≤ ls.length → (choicesOf (ls.take j)).length = 2 ^ j ∧ ∀ c ∈ choicesOf (ls.take j), c.length ≤ j := by
  intro j
  induction j with
  | zero => intro _; exact ⟨rfl, fun p hp => by rw [List.mem_singleton.mp hp]; exact Nat.le_refl _⟩
  | succ j ih =>
    intro hj
    obtain ⟨i1, i2⟩ := ih (by omega)
    rw [choicesOf_take hj]
    refine ⟨?_, fun p hp => ?_⟩
    · unfold stepC
      rw [List.length_append, List.length_map, i1, Nat.pow_succ]
      omega
    · unfold stepC at hp
      rcases List.mem_append.mp hp with hp | hp
      · have := i2 p hp; omega
      · obtain ⟨q, hq, rfl⟩ := List.mem_map.mp hp
        have := i2 q hq
        rw [List.length_append]
        simp only [List.length_cons, List.length_nil]
        omega
theorem stepP_take {P : List (List Str)} {rows : List Row} {i : Nat} {p : List Str} (h : P[i]? = some p) : stepP (P.take (i + 1)) rows = stepP (P.take i) rows ++ rows.map fun r => p ++ [r.n] := by
  unfold stepP
  rw [List.take_add_one, h, List.flatMap_append]
  simp
theorem noL_names (ns : List Str) : noL (namesD ns) = true := noL_map (f := .str) (fun _ => rfl) ns
theorem alikeAll_strs : ∀ a b : List Str, PySem.W.alikeAll (a.map .str) (b.map .str) = true
  | [], b => by cases b <;> rfl
  | x :: a, [] => rfl
  | x :: a, y :: b => by
    show (PySem.W.alike (.str x) (.str y) && PySem.W.alikeAll (a.map .str) (b.map .str)) = true
    rw [alikeAll_strs a b]
    rfl
theorem depth_strs : ∀ ws : List Str, PyData.depthAll (ws.map .str) = 0 := by
  intro ws
  induction ws with
  | nil => rfl
  | cons w ws ih =>
    show max (PyData.depth (.str w)) (PyData.depthAll (ws.map .str)) = 0
    rw [ih]
    rfl
theorem form_settings (l : List (List Str × List Str)) : Form (l.map settingD) := by
  intro a ha b hb
  obtain ⟨s, _, rfl⟩ := List.mem_map.mp ha
  obtain ⟨t, _, rfl⟩ := List.mem_map.mp hb
  refine ⟨?_, fun z => (by cases z), ?_⟩
  · show (PySem.W.alikeAll (s.1.map .str) (t.1.map .str) && (PySem.W.alikeAll (s.2.map .str) (t.2.map .str) && true)) = true
    rw [alikeAll_strs, alikeAll_strs]
    rfl
  · show max (PyData.depthAll (s.1.map .str) + 1) (max (PyData.depthAll (s.2.map .str) + 1) 0) + 1 < 60
    rw [depth_strs, depth_strs]
    decide
theorem noL_setting (s : List Str × List Str) : noL (settingD s) = true := by
  show (noL (namesD s.1) && (noL (namesD s.2) && true)) = true
  rw [noL_names, noL_names]
  rfl
theorem dp_names {K : PySem.W.Frag} {H : Hp} {a : Addr} {ns : List Str} (h : SqT K H a (ns.map V.str)) : Dp K H (.ref a) (namesD ns) := by
  have : ∀ ws : List Str, DpAll K H (ws.map V.str) (ws.map .str) := by
    intro ws
    induction ws with
    | nil => exact .nil
    | cons w ws ih => exact .cons (.str w) ih
  exact .tup h (this ns)
theorem names_dp {K : PySem.W.Frag} {H : Hp} {v : V} {ns : List Str} (h : Dp K H v (namesD ns)) : ∃ a, v = .ref a ∧ SqT K H a (ns.map V.str) := by
  obtain ⟨a, xs, rfl, h1, h2⟩ := dp_tup h
  have : ∀ (ws : List Str) (xs : List V), DpAll K H xs (ws.map .str) → xs = ws.map V.str := by
    intro ws
    induction ws with
    | nil => intro xs h; cases h; rfl
    | cons w ws ih =>
      intro xs h
      cases h with
      | cons h1 h2 => rw [dp_str h1, ih _ h2]; rfl
  rw [this ns xs h2] at h1
  exact ⟨a, rfl, h1⟩
theorem pair_len (P C : List (List Str)) : (P.flatMap fun p => C.map fun c => (p, c)).length = P.length * C.length := by
  induction P with
  | nil => simp
  | cons q l ih => rw [List.flatMap_cons, List.length_append, ih, List.length_map, List.length_cons, Nat.succ_mul, Nat.add_comm]
/-! ### the text as a whole -/
theorem joinL_free {s : Nat} {S : List Nat} (hS : s ∉ S) : ∀ ps : List (List Nat), (∀ p ∈ ps, s ∉ p) → s ∉ joinL S ps
  | [], _ => by simp [joinL]
  | [p], h => h p (List.mem_singleton.mpr rfl)
  | p :: q :: r, h => by
    simp only [joinL, List.mem_append, not_or]
    exact ⟨h p (List.mem_cons_self ..), hS, joinL_free hS (q :: r) fun x hx => h x (List.mem_cons_of_mem _ hx)⟩
theorem join_free {s : Nat} {y : Str} {ws : List Str} (hy : s ∉ tl y) (h : ∀ w ∈ ws, s ∉ tl w) : s ∉ tl (Txt.join y ws) := by
  rw [join_eq, tl_join]
  refine joinL_free hy _ fun p hp => ?_
  obtain ⟨w, hw, rfl⟩ := List.mem_map.mp hp
  exact h w hw
theorem blank10 : 10 ∉ tl (" " : Str) := by decide +kernel
theorem meterLine_free {n : Str} (h : NmOk n) : 10 ∉ tl (meterLine n) := join_free blank10 (by
  intro w hw
  simp only [List.mem_cons, List.not_mem_nil, or_false] at hw
  rcases hw with rfl | rfl
  · decide +kernel
  · exact h.free (by decide))
theorem loadLine_free {l : Str × Rat} (h : NmOk l.1) : 10 ∉ tl (loadLine l) := join_free blank10 (by
  intro w hw
  simp only [List.mem_cons, List.not_mem_nil, or_false] at hw
  rcases hw with rfl | rfl | rfl
  · decide +kernel
  · exact h.free (by decide)
  · exact rT_free (by decide))
theorem rowLine_free {r : Row} (h : NmOk r.n) : 10 ∉ tl (rowLine r) := join_free blank10 (rowWords_free h (by decide) (by decide))
theorem spreadLine_free (s : Nat) : 10 ∉ tl (spreadLine s) := join_free blank10 (by
  intro w hw
  simp only [List.mem_cons, List.not_mem_nil, or_false] at hw
  rcases hw with rfl | rfl
  · decide +kernel
  · exact nS_free (by decide))
theorem RowsOk.mem {rows ahead : List Row} (h : RowsOk ahead rows) {r : Row} (hr : r ∈ rows) : ∃ ah, RowOk r ah := by
  obtain ⟨j, hj⟩ := List.getElem?_of_mem hr
  exact ⟨_, (h.get hj).1⟩
theorem LoreOk.row {L : Lore} (ok : LoreOk L) {m : Str × List Row} (hm : m ∈ L.meters) {r : Row} (hr : r ∈ m.2) : ∃ ah, RowOk r ah := (ok.rows m hm).2.2.mem hr
theorem lines_mem {L : Lore} {w : Str} (h : w ∈ lines L) : (w = spreadLine L.spread ∧ 0 < L.spread) ∨ (∃ m ∈ L.meters, w = meterLine m.1) ∨ (∃ m ∈ L.meters, ∃ r ∈ m.2, w = rowLine r) ∨ ∃ l ∈ L.loads, w = loadLine l := by
  unfold lines spreadLines at h
  rcases List.mem_append.mp h with h | h
  · split at h
    · rename_i h0
      exact .inl ⟨List.mem_singleton.mp h, h0⟩
    · cases h
  · rcases List.mem_append.mp h with h | h
    · obtain ⟨m, hm, h⟩ := List.mem_flatMap.mp h
      rcases List.mem_cons.mp h with rfl | h
      · exact .inr (.inl ⟨m, hm, rfl⟩)
      · obtain ⟨r, hr, rfl⟩ := List.mem_map.mp h
        exact .inr (.inr (.inl ⟨m, hm, r, hr, rfl⟩))
    · obtain ⟨l, hl, rfl⟩ := List.mem_map.mp h
      exact .inr (.inr (.inr ⟨l, hl, rfl⟩))
theorem LoreOk.free {L : Lore} (ok : LoreOk L) : ∀ w ∈ lines L, 10 ∉ tl w := by
  intro w hw
  rcases lines_mem hw with ⟨rfl, _⟩ | ⟨m, hm, rfl⟩ | ⟨m, hm, r, hr, rfl⟩ | ⟨l, hl, rfl⟩
  · exact spreadLine_free _
  · exact meterLine_free (ok.mn m hm)
  · obtain ⟨ah, h⟩ := ok.row hm hr
    exact rowLine_free h.nm
  · exact loadLine_free (ok.ln l hl).1
theorem spreadLine_le {s : Nat} (h : s ≤ 20) : (spreadLine s).length ≤ 20 := by
  rw [← spreadLine_eq, Str.length_append]
  have a := nS_len (n := s) (k := 2) (by decide) (by omega)
  have b : (("spread " : String) : Str).length = 7 := rfl
  omega
theorem LoreOk.le {L : Lore} (ok : LoreOk L) : ∀ w ∈ lines L, w.length ≤ 120 := by
  intro w hw
  rcases lines_mem hw with ⟨rfl, _⟩ | ⟨m, hm, rfl⟩ | ⟨m, hm, r, hr, rfl⟩ | ⟨l, hl, rfl⟩
  · exact Nat.le_trans (spreadLine_le ok.spread) (by decide)
  · exact Nat.le_trans (meterLine_le (ok.mn m hm)) (by decide)
  · obtain ⟨ah, h⟩ := ok.row hm hr
    exact rowLine_le h
  · exact Nat.le_trans (loadLine_le (ok.ln l hl).1 (ok.ln l hl).2) (by decide)
theorem flat_len {ms : List (Str × List Row)} (h : ∀ m ∈ ms, m.2.length ≤ 4) : (ms.flatMap meterLines).length ≤ ms.length * 5 := by
  induction ms with
  | nil => simp
  | cons m ms ih =>
    have h1 := h m (List.mem_cons_self ..)
    have h2 := ih fun x hx => h x (List.mem_cons_of_mem _ hx)
    rw [List.flatMap_cons, List.length_append, meterLines_len, List.length_cons, Nat.succ_mul]
    omega
theorem LoreOk.few {L : Lore} (ok : LoreOk L) : (lines L).length ≤ 18 := by
  have h1 := flat_len fun m hm => (ok.rows m hm).2.1
  have h2 := ok.m3
  have h3 := ok.l2
  unfold lines spreadLines
  rw [List.length_append, List.length_append, List.length_map]
  split <;> simp only [List.length_cons, List.length_nil] <;> omega
theorem LoreOk.text_le {L : Lore} (ok : LoreOk L) : (textOf L).length ≤ 2200 := by
  refine Nat.le_trans (join_le ok.le) ?_
  have := ok.few
  have e : (120 + (("\n" : String) : Str).length) = 121 := rfl
  rw [e]
  omega
theorem LoreOk.ne {L : Lore} (ok : LoreOk L) : lines L ≠ [] := by
  intro z
  have h := ok.m1
  cases e : L.meters with
  | nil => rw [e] at h; simp at h
  | cons m ms =>
    unfold lines at z
    rw [e] at z
    have := congrArg List.length z
    simp [meterLines] at this
theorem LoreOk.split {L : Lore} (ok : LoreOk L) : Txt.split (textOf L) "\n" = lines L := split_lines ok.ne ok.free
theorem spreadLine_inj {a b : Nat} (h : spreadLine a = spreadLine b) : a = b := by
  rw [← spreadLine_eq, ← spreadLine_eq] at h
  have h2 := congrArg tl h
  rw [tl_append, tl_append, List.append_cancel_left_eq] at h2
  exact nS_inj (ext_tl h2)
theorem spreadNum_spread {s : Nat} (h0 : 0 < s) (h : s ≤ 20) : spreadNum (spreadLine s) = s := by
  unfold spreadNum
  have : (List.range 20).find? (fun k => decide (spreadLine s = spreadLine (k + 1))) = some (s - 1) := by
    rw [List.find?_range_eq_some]
    refine ⟨decide_eq_true (by congr 1; omega), List.mem_range.mpr (by omega), fun j hj => ?_⟩
    have : spreadLine s ≠ spreadLine (j + 1) := fun z => by have := spreadLine_inj z; omega
    simpa using this
  rw [this]
  show s - 1 + 1 = s
  omega
theorem spreadNum_meter (n : Str) : spreadNum (meterLine n) = 0 := by
  unfold spreadNum
  have : (List.range 20).find? (fun k => decide (meterLine n = spreadLine (k + 1))) = none := by
    rw [List.find?_eq_none]
    intro j _
    have : meterLine n ≠ spreadLine (j + 1) := fun z => by
      have z := congrArg tl z
      rw [meterLine_tl, ← spreadLine_eq, tl_append] at z
      have z := (List.cons.inj z).1
      cases z
    simpa using this
  rw [this]
  rfl
def offOf (s : Nat) : Nat := if s > 0 then 1 else 0
theorem lines_drop (L : Lore) : (lines L).drop (offOf L.spread) = L.meters.flatMap meterLines ++ L.loads.map loadLine := by
  unfold lines spreadLines offOf
  split <;> rfl
theorem lines_head {L : Lore} (ok : LoreOk L) : ∃ w, (lines L)[0]? = some w ∧ spreadNum w = L.spread := by
  unfold lines spreadLines
  split
  · rename_i h
    exact ⟨_, rfl, spreadNum_spread h ok.spread⟩
  · rename_i h
    have h1 := ok.m1
    cases e : L.meters with
    | nil => rw [e] at h1; simp at h1
    | cons m ms => exact ⟨meterLine m.1, rfl, by rw [spreadNum_meter]; omega⟩
theorem noL_settings (L : Lore) : noL (settingsD L) = true := (noLAll_iff _).mpr fun d hd => by
  obtain ⟨s, _, rfl⟩ := List.mem_map.mp (srt_mem _ _ d hd)
  exact noL_setting s
theorem noL_rows (s : Nat) (rows : List Row) : noL (.tuple (rows.map fun r => rowD (lowR s r))) = true := noL_map (noL_low s) rows
end My

/-! own layer: steps through dicts, slices, texts; loops over anything -/
namespace My
open PySem PySem.Spec PyProof.Rows L2 TL
section
variable {K : PySem.W.Frag} {σ : L2.St} {H H' : Hp} {ta tb te : TE} {t : TA} {Q : VK} {D : Ends} {a b p d : Addr} {xs : List V} {v w x y : V} {kvs : List (Key × V)} {k : Key} {tl th ts : TO} {r : V → Option Int → Option Int → Hp → VK → Prop} {QO : Option Int → Hp → Prop}
/-! ### constants of a module -/
theorem pe_globI {X : Cx} {x : Str} {n : Int} {pos : Pos} (hg : Gl X x) (h : ∃ t, X.mg x = some (.int n t)) (hd : (x == ("__debug__" : Str)) = false := by decide) : PE X (.Name x pos) (tC (.int n)) := by
  obtain ⟨t, e⟩ := h
  exact pe_glob (v := .int n) hg e ⟨t, rfl⟩ hd
theorem intB_ok {K : PySem.W.Frag} {h : Heap} {mg : Str → Option Value} {x : Str} {n : Int} (X : K.In h) (G : h.Ns mainGlobals mg) (e : intB K x n = true) : ∃ t, mg x = some (.int n t) := by
  unfold intB at e
  split at e
  · rename_i m t q
    have := eq_of_beq e
    subst this
    exact ⟨t, PySem.W.mg_of X G q⟩
  · cases e
/-! ### dicts -/
def DgQ (x y : V) (H : Hp) (Q : VK) : Prop := ∃ a v, x = .ref a ∧ DGet H a y (some v) ∧ Q v H
theorem i_dget (h : ta σ H fun x H1 => tb σ H1 fun y H2 => DgQ x y H2 Q) : tDGet ta tb σ H Q := h
theorem rd_get (h : Rd H a (.dK kvs)) : DGet H a (kV k) (valV kvs k) := .inl ⟨kvs, k, h, rfl, rfl⟩
theorem i_dgS {z : Str} (h : H a = some (.dK kvs)) (e : valV kvs (.inr z) = some v) (q : Q v H) : DgQ (.ref a) (.str z) H Q := ⟨a, v, rfl, e ▸ rd_get (k := .inr z) (.inl h), q⟩
theorem i_dgF {z : Str} {o : Obj} (h : H a = some (.frz o (.dK kvs))) (e : valV kvs (.inr z) = some v) (q : Q v H) : DgQ (.ref a) (.str z) H Q := ⟨a, v, rfl, e ▸ rd_get (k := .inr z) (.inr ⟨o, h⟩), q⟩
def DiQ (y x : V) (H : Hp) (Q : Bool → Prop) : Prop := ∃ a o, x = .ref a ∧ DGet H a y o ∧ Q o.isSome
theorem i_din (h : ta σ H fun y H1 => tb σ H1 fun x H2 => DiQ y x H2 fun k => Q (.bl k) H2) : tDIn ta tb σ H Q := h
theorem i_dnin (h : ta σ H fun y H1 => tb σ H1 fun x H2 => DiQ y x H2 fun k => Q (.bl (!k)) H2) : tDNotIn ta tb σ H Q := h
theorem i_diS {z : Str} {P : Bool → Prop} (h : H a = some (.dK kvs)) (q : P (valV kvs (.inr z)).isSome) : DiQ (.str z) (.ref a) H P := ⟨a, _, rfl, rd_get (k := .inr z) (.inl h), q⟩
def DpQ (v x y : V) (H : Hp) (R : Hp → Prop) : Prop := ∃ a H4, x = .ref a ∧ DPut H a y v H4 ∧ R H4
theorem i_dput (h : te σ H fun v H1 => ta σ H1 fun x H2 => tb σ H2 fun y H3 => DpQ v x y H3 (D.nx σ)) : sDPut ta tb te D σ H := h
theorem i_dpS {z : Str} {R : Hp → Prop} (h : H a = some (.dK kvs)) (hl : kvs.length < sizeLine) (q : ∀ H1, But a H H1 → H1 a = some (.dK (putK kvs (.inr z) v)) → R H1) : DpQ v (.ref a) (.str z) H R :=
  ⟨a, _, rfl, DPut.k (k := .inr z) h hl, q _ But.upd upd_same⟩
def DgoQ (a : Addr) (y : V) (H : Hp) (Q : VK) : Prop := ∃ o, DGet H a y o ∧ Q (o.getD .non) H
def Dg1Q (t : (V → Hp → Prop) → Prop) (x : V) (H : Hp) (Q : VK) : Prop := ∃ a, x = .ref a ∧ IsD H a ∧ t fun y H2 => DgoQ a y H2 Q
theorem i_dget1 (h : ta σ H fun x H1 => Dg1Q (tb σ H1) x H1 Q) : tDGet1 ta tb σ H Q := h
theorem i_dg1 {t : (V → Hp → Prop) → Prop} (h : H a = some (.dK kvs)) (q : t fun y H2 => DgoQ a y H2 Q) : Dg1Q t (.ref a) H Q := ⟨a, rfl, .inl ⟨kvs, .inl h⟩, q⟩
theorem i_dgo {z : Str} (h : H a = some (.dK kvs)) (e : (valV kvs (.inr z)).getD .non = v) (q : Q v H) : DgoQ a (.str z) H Q := ⟨_, rd_get (k := .inr z) (.inl h), by rw [e]; exact q⟩
theorem i_dnewK (q : ∀ p H1, Same H H1 → H p = none → H1 p = some (.dK []) → Q (.ref p) H1) : tDNewK σ H Q := i_new q
theorem op_inK {X : Cx} {K : PySem.W.Frag} (hK : X.K = K) : OpR X (compareOp .In) (rIn K false) := by
  subst hK
  exact op_in_seq
theorem ix_seqK {X : Cx} {K : PySem.W.Frag} (hK : X.K = K) : IxR X (rIx K) := by
  subst hK
  exact ix_seq
theorem i_inL (hl : SqL K H p xs) (fx : flatV x = true) (fs : xs.all flatV = true) (h : Q (.bl (inV x xs)) H) : rIn K false x (.ref p) H Q := ⟨p, xs, rfl, .inl hl, fx, fs, h⟩
theorem i_inT (hl : SqT K H p xs) (fx : flatV x = true) (fs : xs.all flatV = true) (h : Q (.bl (inV x xs)) H) : rIn K false x (.ref p) H Q := ⟨p, xs, rfl, .inr hl, fx, fs, h⟩
theorem i_neW {xs ys : List Str} (hl : SqL K H a (xs.map V.str)) (hb : SqL K H b (ys.map V.str)) (ox : ∀ w ∈ xs, WOk w) (oy : ∀ w ∈ ys, WOk w) (h : Q (.bl (!decide (xs = ys))) H) : rNeD K (.ref a) (.ref b) H Q :=
  ⟨_, _, dp_strs hl, dp_strs hb, shaped_strs ox, shaped_strs oy, by rw [eqv_strs]; exact h⟩
theorem tru_list (hl : SqL K H a xs) : TruV K (.ref a) H (!xs.isEmpty) := .inl ⟨xs, hl, rfl⟩
theorem tru_dict (h : H a = some (.dK kvs)) : TruV K (.ref a) H (!kvs.isEmpty) := .inr (.inr ⟨kvs, h, rfl⟩)
theorem i_joinHp {c : Bool} {ta tb : TE} {σ : L2.St} {H : Hp} {Q : VK} (R : V → Hp → Prop) (h1 : c = true → ∀ Q' : VK, (∀ v H', R v H' → Q' v H') → ta σ H Q') (h2 : c = false → ∀ Q' : VK, (∀ v H', R v H' → Q' v H') → tb σ H Q') (h : ∀ v H', R v H' → Q v H') : if c = true then ta σ H Q else tb σ H Q := by
  cases c with
  | true => exact h1 rfl Q h
  | false => exact h2 rfl Q h
/-- both ways of a test that comes out false -/
theorem i_andF {tt tu : TT} {σ : L2.St} {H : Hp} {QB : Bool → Hp → Prop} (R : Hp → Prop) (h1 : ∀ QB' : Bool → Hp → Prop, (∀ H', R H' → QB' false H') → tAnd tt tu σ H QB') (h2 : ∀ H', R H' → QB false H') : tAnd tt tu σ H QB := h1 QB h2
theorem i_orF {tt tu : TT} {σ : L2.St} {H : Hp} {QB : Bool → Hp → Prop} (R : Hp → Prop) (h1 : ∀ QB' : Bool → Hp → Prop, (∀ H', R H' → QB' false H') → tOr tt tu σ H QB') (h2 : ∀ H', R H' → QB false H') : tOr tt tu σ H QB := h1 QB h2
theorem inV_no {n : Str} {xs : List Str} (h : n ∉ xs) : inV (.str n) (xs.map V.str) = false := by
  unfold inV
  rw [List.any_eq_false]
  intro y hy
  obtain ⟨m, hm, rfl⟩ := List.mem_map.mp hy
  have : m ≠ n := fun z => h (z ▸ hm)
  simpa [eqV] using this
theorem inV_yes {n : Str} {xs : List Str} (h : n ∈ xs) : inV (.str n) (xs.map V.str) = true := by
  unfold inV
  rw [List.any_eq_true]
  exact ⟨.str n, List.mem_map.mpr ⟨n, h, rfl⟩, by simp [eqV]⟩
theorem flat_strs (xs : List Str) : (xs.map V.str).all flatV = true := by
  rw [List.all_eq_true]
  intro y hy
  obtain ⟨m, hm, rfl⟩ := List.mem_map.mp hy
  rfl
theorem i_isN {P : Prop} (h : P) : V.non = V.non ∧ P := ⟨rfl, h⟩
theorem i_aug {i : Nat} {ti : TIp} (e : σ[i]? = some (some x)) (h : te σ H fun y H1 => ti x y H1 fun z H2 => D.nx (σ.set i (some z)) H2) : tAug i te ti D σ H := ⟨x, e, h⟩
theorem i_ipI {f : Int → Int → Int} {m n : Int} (h : Q (.int (f m n)) H) : ipI f (.int m) (.int n) H Q := ⟨m, n, rfl, rfl, h⟩
theorem pa_starK {X : Cx} {K : PySem.W.Frag} {e : Expr} {es : List Expr} {te : TE} {t : TA} {p : Pos} (hK : X.K = K) (he : PE X e te) (hr : PA X es t) (hs : starEach (.Starred e p :: es) X.env = (true, eval e X.env) :: starEach es X.env := by rfl) : PA X (.Starred e p :: es) (StX.tStar K te t) := by
  subst hK
  exact StX.pa_star he hr hs
theorem pi_tupK {X : Cx} {K : PySem.W.Frag} {tg e : Expr} {te : TE} (hK : X.K = K) (he : PE X e te) : PI X tg e (iTup K te) := by
  subst hK
  exact pi_tup he
theorem pi_listK {X : Cx} {K : PySem.W.Frag} {tg e : Expr} {te : TE} (hK : X.K = K) (he : PE X e te) : PI X tg e (iList K te) := by
  subst hK
  exact pi_list he
/-- self.f = e, by a name -/
def FsQ (K : PySem.W.Frag) (f : Str) (y x : V) (H : Hp) (R : Hp → Prop) : Prop := ∃ a C dx fs, x = .ref a ∧ H a = some (.ins C dx fs) ∧ Cls K C ∧ NoAttr K C f ∧ fs.length < 1000 ∧ R (upd H a (.ins C dx (putF f y fs)))
theorem i_sfldB {f : Str} (h : te σ H fun y H1 => ta σ H1 fun x H2 => FsQ K f y x H2 (D.nx σ)) : sFld K ta te f D σ H := h
theorem i_fsv {C dx : Addr} {fs : List (Str × V)} {f : Str} {R : Hp → Prop} (h : H a = some (.ins C dx fs)) (c : Cls K C) (n : NoAttr K C f) (l : fs.length < 1000) (k : ∀ H1, But a H H1 → H1 a = some (.ins C dx (putF f y fs)) → R H1) : FsQ K f y (.ref a) H R :=
  ⟨a, C, dx, fs, rfl, h, c, n, l, k _ But.upd upd_same⟩
theorem putF_ne {f g : Str} {v x : V} {r : List (Str × V)} (h : ¬ g = f) : putF f v ((g, x) :: r) = (g, x) :: putF f v r := by
  show (if g = f then _ else _) = _
  rw [if_neg h]
theorem ben1 (t s : V) : putF "_spread" s (putF "_text" t []) = [(("_text" : Str), t), (("_spread" : Str), s)] := by
  show putF "_spread" s [(("_text" : Str), t)] = _
  rw [putF_ne (by decide +kernel)]; rfl
theorem ben2 (t s r : V) : putF "_ranges" r [(("_text" : Str), t), (("_spread" : Str), s)] = [(("_text" : Str), t), (("_spread" : Str), s), (("_ranges" : Str), r)] := by
  rw [putF_ne (by decide +kernel), putF_ne (by decide +kernel)]; rfl
theorem ben3 (t s r l : V) : putF "_loads" l [(("_text" : Str), t), (("_spread" : Str), s), (("_ranges" : Str), r)] = [(("_text" : Str), t), (("_spread" : Str), s), (("_ranges" : Str), r), (("_loads" : Str), l)] := by
  rw [putF_ne (by decide +kernel), putF_ne (by decide +kernel), putF_ne (by decide +kernel)]; rfl
theorem ben4 (t : Str) (s : Nat) (rd ld : Addr) (st : V) : putF "_settings" st [(("_text" : Str), .str t), (("_spread" : Str), .int s), (("_ranges" : Str), .ref rd), (("_loads" : Str), .ref ld)] = benF t s rd ld st := by
  rw [putF_ne (by decide +kernel), putF_ne (by decide +kernel), putF_ne (by decide +kernel), putF_ne (by decide +kernel)]; rfl
theorem i_fldv {C dx : Addr} {fs : List (Str × V)} {f : Str} (h : H a = some (.ins C dx fs)) (c : Cls K C) (n : NoAttr K C f) (e : fs.lookup f = some v) (q : Q v H) : FldQ K f (.ref a) H Q := ⟨a, C, dx, fs, v, rfl, h, c, n, e, q⟩
theorem look_ranges {t s r l : V} : List.lookup ("_ranges" : Str) [(("_text" : Str), t), (("_spread" : Str), s), (("_ranges" : Str), r), (("_loads" : Str), l)] = some r := by
  rw [List.lookup_cons, List.lookup_cons, List.lookup_cons]
  have h1 : (("_ranges" : Str) == ("_text" : Str)) = false := by decide +kernel
  have h2 : (("_ranges" : Str) == ("_spread" : Str)) = false := by decide +kernel
  rw [h1, h2, beq_self_eq_true]
section
variable {t : Str} {s : Nat} {rd ld : Addr} {st : V}
theorem lk_text : (benF t s rd ld st).lookup ("_text" : Str) = some (.str t) := by
  unfold benF
  rw [List.lookup_cons, beq_self_eq_true]
theorem lk_spread : (benF t s rd ld st).lookup ("_spread" : Str) = some (.int s) := by
  unfold benF
  have h1 : (("_spread" : Str) == ("_text" : Str)) = false := by decide +kernel
  rw [List.lookup_cons, List.lookup_cons, h1, beq_self_eq_true]
theorem lk_ranges : (benF t s rd ld st).lookup ("_ranges" : Str) = some (.ref rd) := by
  unfold benF
  have h1 : (("_ranges" : Str) == ("_text" : Str)) = false := by decide +kernel
  have h2 : (("_ranges" : Str) == ("_spread" : Str)) = false := by decide +kernel
  rw [List.lookup_cons, List.lookup_cons, List.lookup_cons, h1, h2, beq_self_eq_true]
theorem lk_loads : (benF t s rd ld st).lookup ("_loads" : Str) = some (.ref ld) := by
  unfold benF
  have h1 : (("_loads" : Str) == ("_text" : Str)) = false := by decide +kernel
  have h2 : (("_loads" : Str) == ("_spread" : Str)) = false := by decide +kernel
  have h3 : (("_loads" : Str) == ("_ranges" : Str)) = false := by decide +kernel
  rw [List.lookup_cons, List.lookup_cons, List.lookup_cons, List.lookup_cons, h1, h2, h3, beq_self_eq_true]
theorem lk_settings : (benF t s rd ld st).lookup ("_settings" : Str) = some st := by
  unfold benF
  have h1 : (("_settings" : Str) == ("_text" : Str)) = false := by decide +kernel
  have h2 : (("_settings" : Str) == ("_spread" : Str)) = false := by decide +kernel
  have h3 : (("_settings" : Str) == ("_ranges" : Str)) = false := by decide +kernel
  have h4 : (("_settings" : Str) == ("_loads" : Str)) = false := by decide +kernel
  rw [List.lookup_cons, List.lookup_cons, List.lookup_cons, List.lookup_cons, List.lookup_cons, h1, h2, h3, h4, beq_self_eq_true]
theorem benF_no {m : Str} (h1 : ¬ m = "_text") (h2 : ¬ m = "_spread") (h3 : ¬ m = "_ranges") (h4 : ¬ m = "_loads") (h5 : ¬ m = "_settings") : (benF t s rd ld st).lookup m = none := by
  unfold benF
  rw [List.lookup_cons, List.lookup_cons, List.lookup_cons, List.lookup_cons, List.lookup_cons, beq_eq_false_iff_ne.mpr h1, beq_eq_false_iff_ne.mpr h2, beq_eq_false_iff_ne.mpr h3, beq_eq_false_iff_ne.mpr h4, beq_eq_false_iff_ne.mpr h5]
  rfl
end
/-! ### slices -/
theorem i_sl (h : te σ H fun x H1 => tl σ H1 fun l H2 => th σ H2 fun u H3 => r x l u H3 Q) : tSl r te tl th σ H Q := h
theorem i_noP (h : QO none H) : tNoPart σ H QO := h
theorem i_someP (h : ta σ H fun x H1 => ∃ i, x = .int i ∧ QO (some i) H1) : tPart ta σ H QO := h
theorem i_inO {n : Int} {P : Int → Prop} (h : P n) : ∃ m, V.int n = .int m ∧ P m := ⟨n, rfl, h⟩
theorem i_slL {lo hi : Option Int} (hl : SqL K H a xs) (h : ∀ p H1, Same H H1 → H p = none → H1 p = some (.lst (cutV xs lo hi)) → Q (.ref p) H1) : rSlL K (.ref a) lo hi H Q := ⟨a, xs, rfl, hl, i_new h⟩
def SlSQ (K : PySem.W.Frag) (x : V) (l u c : Option Int) (H : Hp) (Q : VK) : Prop := ∃ a xs, x = .ref a ∧ SqL K H a xs ∧ c ≠ some 0 ∧ ∀ p, H p = none → Q (.ref p) (upd H p (.lst (pickV xs l u c)))
theorem i_slS (h : te σ H fun x H1 => tl σ H1 fun l H2 => th σ H2 fun u H3 => ts σ H3 fun c H4 => SlSQ K x l u c H4 Q) : tSlS K te tl th ts σ H Q := h
theorem i_slSv {lo hi c : Option Int} (hl : SqL K H a xs) (hc : c ≠ some 0) (h : ∀ p H1, Same H H1 → H p = none → H1 p = some (.lst (pickV xs lo hi c)) → Q (.ref p) H1) : SlSQ K (.ref a) lo hi c H Q := ⟨a, xs, rfl, hl, hc, i_new h⟩
/-- *e in a display -/
def StQ (K : PySem.W.Frag) (t : (List V → Hp → Prop) → Prop) (x : V) (H : Hp) (QA : List V → Hp → Prop) : Prop := ∃ p xs, x = V.ref p ∧ (SqT K H p xs ∨ SqL K H p xs) ∧ t fun ys H2 => QA (xs ++ ys) H2
theorem i_star {QA : List V → Hp → Prop} (h : te σ H fun x H1 => StQ K (t σ H1) x H1 QA) : StX.tStar K te t σ H QA := h
theorem i_starL {QA : List V → Hp → Prop} {t : (List V → Hp → Prop) → Prop} (hl : SqL K H a xs) (h : t fun ys H2 => QA (xs ++ ys) H2) : StQ K t (.ref a) H QA := ⟨a, xs, rfl, .inr hl, h⟩
theorem i_starT {QA : List V → Hp → Prop} {t : (List V → Hp → Prop) → Prop} (hl : SqT K H a xs) (h : t fun ys H2 => QA (xs ++ ys) H2) : StQ K t (.ref a) H QA := ⟨a, xs, rfl, .inl hl, h⟩
/-! ### texts -/
theorem i_eqS {a b : Str} (h : Q (.bl (decide (a = b))) H) : L2.rEq (.str a) (.str b) H Q := ⟨rfl, by
  have e : decide (V.str a = V.str b) = decide (a = b) := decide_eq_decide.mpr ⟨fun z => V.str.inj z, fun z => z ▸ rfl⟩
  rw [e]; exact h⟩
theorem i_neSt {a b : Str} (h : Q (.bl (!decide (a = b))) H) : L2.rNe (.str a) (.str b) H Q := ⟨rfl, by
  have e : decide (V.str a = V.str b) = decide (a = b) := decide_eq_decide.mpr ⟨fun z => V.str.inj z, fun z => z ▸ rfl⟩
  rw [e]; exact h⟩
theorem i_lenS {z : Str} (hz : z.length ≤ sizeLine) (h : Q (.int z.length) H) : rLenA K [.str z] H Q := ⟨.str z, z.length, rfl, ⟨hz, rfl⟩, h⟩
theorem i_tyS {z : Str} {P : Prop} (h : P) : tyV K "str" (.str z) H ∧ P := ⟨rfl, h⟩
def JsQ (acc : Str) (ts : List TE) (σ : L2.St) (x : V) (H : Hp) (Q : Str → Hp → Prop) : Prop := ∃ y : Str, x = .str y ∧ (acc ++ y).length ≤ sizeLine ∧ tJs ts (acc ++ y) σ H Q
theorem i_js {t : TE} {ts : List TE} {acc : Str} {Q : Str → Hp → Prop} (h : t σ H fun x H1 => JsQ acc ts σ x H1 Q) : tJs (t :: ts) acc σ H Q := h
theorem i_js0 {acc : Str} {Q : Str → Hp → Prop} (h : Q acc H) : tJs [] acc σ H Q := h
theorem i_jsv {acc y : Str} {ts : List TE} {Q : Str → Hp → Prop} (hz : (acc ++ y).length ≤ sizeLine) (h : tJs ts (acc ++ y) σ H Q) : JsQ acc ts σ (.str y) H Q := ⟨y, rfl, hz, h⟩
theorem i_isiStr (h : Q (.bl true) H) {z : Str} : rIsi K [.str z, .ty "str"] H Q := ⟨_, _, _, _, true, rfl, .ty _, .base (.str _), by unfold PySem.W.kitOne; rw [if_pos (beq_self_eq_true _)], h⟩
/-- a chain of two comparisons -/
def ChQ (r : R2) (tc : TE) (σ : L2.St) (y z : V) (H : Hp) (Q : VK) : Prop := ∃ k, z = .bl k ∧ (if k = true then tc σ H fun w H4 => r y w H4 Q else Q (.bl false) H)
theorem i_chain {r r' : R2} {tc : TE} (h : ta σ H fun x H1 => tb σ H1 fun y H2 => r x y H2 fun z H3 => ChQ r' tc σ y z H3 Q) : tChain r r' ta tb tc σ H Q := h
theorem i_chb {r : R2} {tc : TE} {k : Bool} (h : if k = true then tc σ H fun w H4 => r y w H4 Q else Q (.bl false) H) : ChQ r tc σ y (.bl k) H Q := ⟨k, rfl, h⟩
def rLeS : R2 := fun x y H Q => ∃ i j, x = .str i ∧ y = .str j ∧ Q (.bl (!decide (j.cps.toList < i.cps.toList))) H
theorem op_leSt {X : Cx} : OpR X (compareOp .LtE) rLeS := op_le_str
theorem i_leS {a b : Str} (h : Q (.bl (!decide (b.cps.toList < a.cps.toList))) H) : rLeS (.str a) (.str b) H Q := ⟨a, b, rfl, rfl, h⟩
theorem i_str {R : It → Hp → Prop} (h : te σ H fun v H1 => ∃ x, v = .str x ∧ R (Its x) H1) : iStr te σ H R := h
theorem i_strv {z : Str} {P : Str → Prop} (h : P z) : ∃ x, V.str z = .str x ∧ P x := ⟨z, rfl, h⟩
theorem i_nt {P : Prop} (h : P) : ([] : List V) = [] ∧ True ∧ P := ⟨rfl, trivial, h⟩
theorem i_strv2 {a b : Str} {P : Str → Str → Prop} (h : P a b) : ∃ i j, V.str a = .str i ∧ [V.str b] = [.str j] ∧ P i j := ⟨a, b, rfl, rfl, h⟩
/-- one sign of a text -/
theorem i_ixsS {z : Str} {n : Int} {c : Nat} (hz : z.length ≤ sizeLine) (ha : atI z.cps.toList n = some c) (h : Q (.str ⟨#[c]⟩) H) : rIx K (.str z) (.int n) H Q := .inr (.inr ⟨z, n, c, rfl, rfl, hz, ha, h⟩)
theorem i_intS {z : Str} {n : Int} (hn : intText? z = some n) (hz : z.length ≤ 640) (h : Q (.int n) H) : ∃ a n, [V.str z] = [.str a] ∧ intText? a = some n ∧ a.length ≤ 640 ∧ Q (.int n) H := ⟨z, n, rfl, hn, hz, h⟩
def rPartN : V → List V → Hp → VK → Prop := fun x xs H Q => ∃ a b, x = .str a ∧ xs = [.str b] ∧ (b.length == 0) = false ∧ a.length ≤ sizeLine ∧ ∀ p, H p = none → Q (.ref p) (upd H p (.tup [.str (Txt.partition a b).1, .str (Txt.partition a b).2.1, .str (Txt.partition a b).2.2]))
theorem mt_partN {X : Cx} : MtR X "str.partition" rPartN := mt_partition
theorem i_part {a b a1 b1 c1 : Str} (e : Txt.partition a b = (a1, b1, c1)) (h0 : (b.length == 0) = false) (hz : a.length ≤ sizeLine) (h : ∀ p H1, Same H H1 → H p = none → H1 p = some (.tup [.str a1, .str b1, .str c1]) → Q (.ref p) H1) : rPartN (.str a) [.str b] H Q :=
  ⟨a, b, rfl, rfl, h0, hz, by rw [e]; exact i_new h⟩
def rSplitN : V → List V → Hp → VK → Prop := fun x xs H Q => ∃ a b, x = .str a ∧ xs = [.str b] ∧ (b.length == 0) = false ∧ a.length + 2 ≤ sizeLine ∧ rNewStrs (Txt.split a b) H Q
theorem mt_splitN' {X : Cx} : MtR X "str.split" rSplitN := mt_split
theorem i_split {a b : Str} {ws : List Str} (e : Txt.split a b = ws) (h0 : (b.length == 0) = false) (hz : a.length + 2 ≤ sizeLine) (h : ∀ p H1, Same H H1 → H p = none → H1 p = some (.lst (ws.map V.str)) → Q (.ref p) H1) : rSplitN (.str a) [.str b] H Q :=
  ⟨a, b, rfl, rfl, h0, hz, by rw [e]; exact i_new h⟩
def rJoinN (K : PySem.W.Frag) : V → List V → Hp → VK → Prop := fun x xs H Q => ∃ a p, ∃ ys : List Str, x = .str a ∧ xs = [.ref p] ∧ (SqL K H p (ys.map V.str) ∨ SqT K H p (ys.map V.str)) ∧ (ys.map (·.length)).sum + ys.length * a.length ≤ 16777216 ∧ Q (.str (Txt.join a ys)) H
theorem mt_joinN {X : Cx} : MtR X "str.join" (rJoinN X.K) := mt_join
theorem i_join' {a : Str} {ys : List Str} (hl : SqL K H p (ys.map V.str)) (hz : (ys.map (·.length)).sum + ys.length * a.length ≤ 16777216) (h : Q (.str (Txt.join a ys)) H) : rJoinN K (.str a) [.ref p] H Q := ⟨a, p, ys, rfl, rfl, .inl hl, hz, h⟩
def rTupN (K : PySem.W.Frag) : List V → Hp → VK → Prop := fun xs H Q => ∃ p ys, xs = [.ref p] ∧ ((SqL K H p ys ∧ ∀ l, H l = none → Q (.ref l) (upd H l (.tup ys))) ∨ (SqT K H p ys ∧ Q (.ref p) H))
theorem cr_tupN {X : Cx} : CallR X (.type "tuple") (rTupN X.K) := call_tuple_of
theorem i_tupN {l : Addr} (hl : SqL K H l xs) (h : ∀ p H1, Same H H1 → H p = none → H1 p = some (.tup xs) → Q (.ref p) H1) : rTupN K [.ref l] H Q := ⟨l, xs, rfl, .inl ⟨hl, i_new h⟩⟩
/-! ### a dict that is walked -/
theorem i_lockK (hd : H d = some (.dK kvs)) (h : ∀ od Hl, But d H Hl → Hl d = some (.frz od (.dK kvs)) → te σ Hl fun v H' => H' d = some (.frz od (.dK kvs)) ∧ Q v (upd H' d (.dK kvs))) : tLockE te σ H Q :=
  ⟨d, .dK kvs, hd, trivial, fun od => h od _ But.upd upd_same⟩
/-- the ends of a statement that runs while a dict is locked -/
def lockD (D : Ends) (d : Addr) (od : Obj) (kvs : List (Key × V)) : Ends := ⟨fun σ' H' => H' d = some (.frz od (.dK kvs)) ∧ D.nx σ' (upd H' d (.dK kvs)), fun v H' => H' d = some (.frz od (.dK kvs)) ∧ D.rt v (upd H' d (.dK kvs)), fun σ' H' => H' d = some (.frz od (.dK kvs)) ∧ D.bk σ' (upd H' d (.dK kvs)), fun σ' H' => H' d = some (.frz od (.dK kvs)) ∧ D.ct σ' (upd H' d (.dK kvs))⟩
theorem i_lockS {ts : TS} (hd : H d = some (.dK kvs)) (h : ∀ od Hl, But d H Hl → Hl d = some (.frz od (.dK kvs)) → ts (lockD D d od kvs) σ Hl) : tLock ts D σ H :=
  ⟨d, .dK kvs, hd, trivial, fun od => h od _ But.upd upd_same⟩
theorem unlock_same {Hl : Hp} (hd : H d = some (.dK kvs)) (B : But d H Hl) (S : Same Hl H') : Same H (upd H' d (.dK kvs)) := fun b o e => by
  by_cases z : b = d
  · subst z
    rw [hd] at e
    cases e
    exact upd_same
  · rw [upd_ne z]
    exact S _ _ (B _ _ z e)
def KeysQ (x : V) (H : Hp) (R : It → Hp → Prop) : Prop := ∃ d o, x = .ref d ∧ ((∃ kvs, H d = some (.frz o (.dK kvs)) ∧ R (Itk d o kvs) H) ∨ ∃ kvs, H d = some (.frz o (.dT kvs)) ∧ R (Itkt d o kvs) H)
theorem i_keys {R : It → Hp → Prop} (h : ta σ H fun x H1 => KeysQ x H1 R) : iKeys ta σ H R := h
theorem i_keysv {o : Obj} {R : It → Hp → Prop} (hd : H d = some (.frz o (.dK kvs))) (h : R (Itk d o kvs) H) : KeysQ (.ref d) H R := ⟨d, o, rfl, .inl ⟨kvs, hd, h⟩⟩
end
def Rg2Q (vs : List V) (H : Hp) (R : It → Hp → Prop) : Prop := ∃ i j : Int, vs = [.int i, .int j] ∧ (-(2 ^ 62) ≤ i ∧ i < 2 ^ 62 ∧ -(2 ^ 62) ≤ j ∧ j < 2 ^ 62) ∧ R (Itr i (j - i).toNat) H
theorem i_rng2 {t : TA} {R : It → Hp → Prop} {σ : L2.St} {H : Hp} (h : t σ H fun vs H1 => Rg2Q vs H1 R) : iRng2 t σ H R := h
theorem i_rng2v {i j : Int} {H : Hp} {R : It → Hp → Prop} (h1 : -(2 ^ 62) ≤ i) (h2 : i < 2 ^ 62) (h3 : -(2 ^ 62) ≤ j) (h4 : j < 2 ^ 62) (h : R (Itr i (j - i).toNat) H) : Rg2Q [.int i, .int j] H R := ⟨i, j, rfl, ⟨h1, h2, h3, h4⟩, h⟩
def FmtQ (x : V) (H : Hp) (Q : VK) : Prop := (∃ y : Str, x = .str y ∧ y.length ≤ sizeLine ∧ Q (.str y) H) ∨ ∃ i : Int, x = .int i ∧ i.natAbs.log2 < 1920 ∧ Q (.str (toString i)) H
theorem i_fmt {t : TE} {σ : L2.St} {H : Hp} {Q : VK} (h : t σ H fun x H1 => FmtQ x H1 Q) : tFmt t σ H Q := h
theorem i_fmtI {i : Int} {H : Hp} {Q : VK} (hz : i.natAbs < 2 ^ 400) (h : Q (.str (toString i)) H) : FmtQ (.int i) H Q := .inr ⟨i, rfl, Nat.lt_of_lt_of_le (log_lt (k := 400) (by decide) hz) (by decide), h⟩
theorem i_fmtS {z : Str} {H : Hp} {Q : VK} (hz : z.length ≤ sizeLine) (h : Q (.str z) H) : FmtQ (.str z) H Q := .inl ⟨z, rfl, hz, h⟩
/-- str of an int -/
def rStrI : List V → Hp → VK → Prop := fun xs H Q => ∃ i, xs = [.int i] ∧ i.natAbs.log2 < 1920 ∧ Q (.str (toString i)) H
theorem cr_strI {X : Cx} : CallR X (.type "str") rStrI := call_str_int
theorem i_strI {n : Nat} {H : Hp} {Q : VK} (hz : n < 2 ^ 400) (h : Q (.str (nS n)) H) : rStrI [.int n] H Q := ⟨_, rfl, Nat.lt_of_lt_of_le (log_lt (k := 400) (by decide) (by simpa using hz)) (by decide), h⟩
/-! ### loops over anything -/
section
variable {K : PySem.W.Frag} {σ : L2.St} {H : Hp} {J : It} {g : TG} {tt : TT} {te tk tv : TE} {tb : TS} {vs : List Nat} {Q : VK} {D : Ends} {n : Nat}
/-- what a turn's element is to reach, whatever was left out -/
def TurnC (Pv : Addr → Nat → Hp → List V → Prop) (A : Addr) (i : Nat) : VK := fun y H4 => ∃ acc, H4 A = some (.lst acc) ∧ acc.length < sizeLine ∧ ∃ acc', Pv A (i + 1) (upd H4 A (.lst (acc ++ [y]))) acc'
theorem turnC_end {Pv : Addr → Nat → Hp → List V → Prop} {A : Addr} {i : Nat} {acc : List V} {y : V} (h : H A = some (.lst acc)) (hl : acc.length < 1000000) (k : ∀ H5, But A H H5 → H5 A = some (.lst (acc ++ [y])) → Pv A (i + 1) H5 (acc ++ [y])) : TurnC Pv A i y H :=
  ⟨acc, h, Nat.lt_trans hl (by decide), _, k _ But.upd upd_same⟩
theorem lcq_n (Pv : Addr → Nat → Hp → List V → Prop) (h0 : ∀ A H', Same H H' → H A = none → H' A = some (.lst []) → Pv A 0 H' [])
    (hgo : ∀ A i H' acc, i < n → Pv A i H' acc → J.go i H') (hst : ∀ A H' acc, Pv A n H' acc → J.stop n H')
    (hs : ∀ A i x H' H1 acc, i < n → Pv A i H' acc → J.yld i H' x H1 → g x (wipe σ vs) H1 fun σ2 H2 => wipe σ2 vs = wipe σ vs ∧ tt σ2 H2 fun b H3 => if b = true then te σ2 H3 (TurnC Pv A i) else ∃ acc', Pv A (i + 1) H3 acc')
    (hd : ∀ A H' acc, Pv A n H' acc → Q (.ref A) H') : LcQ J g tt te vs σ H Q := by
  intro A hAn
  refine ⟨fun i m H' => m = n - i ∧ i ≤ n ∧ ∃ acc, Pv A i H' acc, ⟨n, by simp, Nat.zero_le _, [], h0 A _ (fun b u e => by rw [upd_ne (ne_of_none e hAn)]; exact e) hAn upd_same⟩, ?_⟩
  rintro i m H' ⟨rfl, hi, acc, hp⟩
  by_cases hlt : i < n
  · exact .inr ⟨hgo A i H' acc hlt hp, fun H'' => ∃ acc, Pv A (i + 1) H'' acc, fun H'' ⟨acc, p⟩ => ⟨n - (i + 1), by omega, rfl, hlt, acc, p⟩, fun x H1 hy => hs A i x H' H1 acc hlt hp hy⟩
  · have e : i = n := by omega
    subst e
    exact .inl ⟨hst A H' acc hp, hd A H' acc hp⟩
def DcQ (J : It) (g : TG) (tt : TT) (tk tv : TE) (vs : List Nat) (σ : L2.St) (H1 : Hp) (Q : VK) : Prop := ∀ D, H1 D = none → ∃ W : Nat → Nat → Hp → Prop, (∃ m, W 0 m (upd H1 D (.dK []))) ∧ ∀ i m H, W i m H →
  (J.stop i H ∧ Q (.ref D) H) ∨ (J.go i H ∧ ∃ Nx : Hp → Prop, (∀ H', Nx H' → ∃ m', m' < m ∧ W (i + 1) m' H') ∧ ∀ x H', J.yld i H x H' → g x (wipe σ vs) H' fun σ2 H2 => wipe σ2 vs = wipe σ vs ∧ tt σ2 H2 fun b H3 =>
    if b = true then tk σ2 H3 fun y H4 => tv σ2 H4 fun z H5 => ∃ kvs k, y = kV k ∧ H5 D = some (.dK kvs) ∧ kvs.length < sizeLine ∧ Nx (upd H5 D (.dK (putK kvs k z))) else Nx H3)
theorem i_dc {wi : TI} (h : wi σ H fun J H1 => DcQ J g tt tk tv vs σ H1 Q) : tDc wi g tt tk tv vs σ H Q := h
def TurnD (Pv : Addr → Nat → Hp → List (Key × V) → Prop) (A : Addr) (i : Nat) (y : V) : VK := fun z H5 => ∃ kvs k, y = kV k ∧ H5 A = some (.dK kvs) ∧ kvs.length < sizeLine ∧ ∃ kvs', Pv A (i + 1) (upd H5 A (.dK (putK kvs k z))) kvs'
theorem turnD_end {Pv : Addr → Nat → Hp → List (Key × V) → Prop} {A : Addr} {i : Nat} {kvs : List (Key × V)} {s : Str} {z : V} (h : H A = some (.dK kvs)) (hl : kvs.length < 1000000) (k : ∀ H5, But A H H5 → H5 A = some (.dK (putK kvs (.inr s) z)) → Pv A (i + 1) H5 (putK kvs (.inr s) z)) : TurnD Pv A i (.str s) z H :=
  ⟨kvs, .inr s, rfl, h, Nat.lt_trans hl (by decide), _, k _ But.upd upd_same⟩
theorem dcq_n (Pv : Addr → Nat → Hp → List (Key × V) → Prop) (h0 : ∀ A H', Same H H' → H A = none → H' A = some (.dK []) → Pv A 0 H' [])
    (hgo : ∀ A i H' acc, i < n → Pv A i H' acc → J.go i H') (hst : ∀ A H' acc, Pv A n H' acc → J.stop n H')
    (hs : ∀ A i x H' H1 acc, i < n → Pv A i H' acc → J.yld i H' x H1 → g x (wipe σ vs) H1 fun σ2 H2 => wipe σ2 vs = wipe σ vs ∧ tt σ2 H2 fun b H3 => if b = true then tk σ2 H3 fun y H4 => tv σ2 H4 (TurnD Pv A i y) else ∃ acc', Pv A (i + 1) H3 acc')
    (hd : ∀ A H' acc, Pv A n H' acc → Q (.ref A) H') : DcQ J g tt tk tv vs σ H Q := by
  intro A hAn
  refine ⟨fun i m H' => m = n - i ∧ i ≤ n ∧ ∃ acc, Pv A i H' acc, ⟨n, by simp, Nat.zero_le _, [], h0 A _ (fun b u e => by rw [upd_ne (ne_of_none e hAn)]; exact e) hAn upd_same⟩, ?_⟩
  rintro i m H' ⟨rfl, hi, acc, hp⟩
  by_cases hlt : i < n
  · exact .inr ⟨hgo A i H' acc hlt hp, fun H'' => ∃ acc, Pv A (i + 1) H'' acc, fun H'' ⟨acc, p⟩ => ⟨n - (i + 1), by omega, rfl, hlt, acc, p⟩, fun x H1 hy => hs A i x H' H1 acc hlt hp hy⟩
  · have e : i = n := by omega
    subst e
    exact .inl ⟨hst A H' acc hp, hd A H' acc hp⟩
theorem forq_n (Pv : Nat → L2.St → Hp → Prop) (h0 : Pv 0 σ H) (hgo : ∀ i σ' H', i < n → Pv i σ' H' → J.go i H') (hst : ∀ σ' H', Pv n σ' H' → J.stop n H')
    (hs : ∀ i x σ' H' H1, i < n → Pv i σ' H' → J.yld i H' x H1 → g x σ' H1 fun σ2 H2 => tb { D with nx := Pv (i + 1), ct := Pv (i + 1), bk := D.nx } σ2 H2) (hd : ∀ σ' H', Pv n σ' H' → D.nx σ' H') : ForQ J g tb D σ H := by
  refine ⟨fun i m σ' H' => m = n - i ∧ i ≤ n ∧ Pv i σ' H', ⟨n, by simp, Nat.zero_le _, h0⟩, ?_⟩
  rintro i m σ' H' ⟨rfl, hi, hp⟩
  by_cases hlt : i < n
  · exact .inr ⟨hgo i σ' H' hlt hp, Pv (i + 1), fun σ'' H'' p => ⟨n - (i + 1), by omega, rfl, hlt, p⟩, fun x H1 hy => hs i x σ' H' H1 hlt hp hy⟩
  · have e : i = n := by omega
    subst e
    exact .inl ⟨hst σ' H' hp, hd σ' H' hp⟩
/-! ### two walks in a comprehension -/
def Lc2Q (J : It) (g : TG) (tt : TT) (wi1 : TI) (g1 : TG) (tt1 : TT) (te : TE) (vs vs1 : List Nat) (σ : L2.St) (H1 : Hp) (Q : VK) : Prop := ∀ D, H1 D = none → ∃ W : Nat → Nat → Hp → Prop, (∃ m, W 0 m (upd H1 D (.lst []))) ∧ ∀ i m H, W i m H →
  (J.stop i H ∧ Q (.ref D) H) ∨ (J.go i H ∧ ∃ Nx : Hp → Prop, (∀ H', Nx H' → ∃ m', m' < m ∧ W (i + 1) m' H') ∧ ∀ x H', J.yld i H x H' → g x (wipe σ vs) H' fun σ2 H2 => wipe σ2 vs = wipe σ vs ∧ tt σ2 H2 fun b H3 =>
    if b = true then wi1 σ2 H3 fun J1 H4 => ∃ W1 : Nat → Nat → Hp → Prop, (∃ m, W1 0 m H4) ∧ ∀ j k H, W1 j k H →
      (J1.stop j H ∧ Nx H) ∨ (J1.go j H ∧ ∃ Nx1 : Hp → Prop, (∀ H', Nx1 H' → ∃ k', k' < k ∧ W1 (j + 1) k' H') ∧ ∀ x H', J1.yld j H x H' → g1 x (wipe σ2 vs1) H' fun σ3 H5 => wipe σ3 vs1 = wipe σ2 vs1 ∧ tt1 σ3 H5 fun b H6 =>
        if b = true then te σ3 H6 fun y H7 => ∃ acc, H7 D = some (.lst acc) ∧ acc.length < sizeLine ∧ Nx1 (upd H7 D (.lst (acc ++ [y]))) else Nx1 H6)
    else Nx H3)
theorem i_lc2 {wi wi1 : TI} {g1 : TG} {tt1 : TT} {vs1 : List Nat} (h : wi σ H fun J H1 => Lc2Q J g tt wi1 g1 tt1 te vs vs1 σ H1 Q) : tLc2 wi g tt wi1 g1 tt1 te vs vs1 σ H Q := h
/-- the inner walk of a turn: from the heap there to the next turn -/
def InnQ (J1 : It) (g1 : TG) (tt1 : TT) (te : TE) (vs1 : List Nat) (σ2 : L2.St) (A : Addr) (Nx : Hp → Prop) (H4 : Hp) : Prop := ∃ W1 : Nat → Nat → Hp → Prop, (∃ m, W1 0 m H4) ∧ ∀ j k H, W1 j k H →
      (J1.stop j H ∧ Nx H) ∨ (J1.go j H ∧ ∃ Nx1 : Hp → Prop, (∀ H', Nx1 H' → ∃ k', k' < k ∧ W1 (j + 1) k' H') ∧ ∀ x H', J1.yld j H x H' → g1 x (wipe σ2 vs1) H' fun σ3 H5 => wipe σ3 vs1 = wipe σ2 vs1 ∧ tt1 σ3 H5 fun b H6 =>
        if b = true then te σ3 H6 fun y H7 => ∃ acc, H7 A = some (.lst acc) ∧ acc.length < sizeLine ∧ Nx1 (upd H7 A (.lst (acc ++ [y]))) else Nx1 H6)
theorem lcq2_n {wi1 : TI} {g1 : TG} {tt1 : TT} {vs1 : List Nat} (Pv : Addr → Nat → Hp → List V → Prop) (h0 : ∀ A H', Same H H' → H A = none → H' A = some (.lst []) → Pv A 0 H' [])
    (hgo : ∀ A i H' acc, i < n → Pv A i H' acc → J.go i H') (hst : ∀ A H' acc, Pv A n H' acc → J.stop n H')
    (hs : ∀ A i x H' H1 acc, i < n → Pv A i H' acc → J.yld i H' x H1 → g x (wipe σ vs) H1 fun σ2 H2 => wipe σ2 vs = wipe σ vs ∧ tt σ2 H2 fun b H3 =>
      if b = true then wi1 σ2 H3 fun J1 H4 => InnQ J1 g1 tt1 te vs1 σ2 A (fun H'' => ∃ acc', Pv A (i + 1) H'' acc') H4 else ∃ acc', Pv A (i + 1) H3 acc')
    (hd : ∀ A H' acc, Pv A n H' acc → Q (.ref A) H') : Lc2Q J g tt wi1 g1 tt1 te vs vs1 σ H Q := by
  intro A hAn
  refine ⟨fun i m H' => m = n - i ∧ i ≤ n ∧ ∃ acc, Pv A i H' acc, ⟨n, by simp, Nat.zero_le _, [], h0 A _ (fun b u e => by rw [upd_ne (ne_of_none e hAn)]; exact e) hAn upd_same⟩, ?_⟩
  rintro i m H' ⟨rfl, hi, acc, hp⟩
  by_cases hlt : i < n
  · exact .inr ⟨hgo A i H' acc hlt hp, fun H'' => ∃ acc, Pv A (i + 1) H'' acc, fun H'' ⟨acc, p⟩ => ⟨n - (i + 1), by omega, rfl, hlt, acc, p⟩, fun x H1 hy => hs A i x H' H1 acc hlt hp hy⟩
  · have e : i = n := by omega
    subst e
    exact .inl ⟨hst A H' acc hp, hd A H' acc hp⟩
theorem inn_n {J1 : It} {g1 : TG} {tt1 : TT} {vs1 : List Nat} {A : Addr} {Nx : Hp → Prop} (Pv : Nat → Hp → List V → Prop) {acc0 : List V} (h0 : Pv 0 H acc0)
    (hgo : ∀ j H' acc, j < n → Pv j H' acc → J1.go j H') (hst : ∀ H' acc, Pv n H' acc → J1.stop n H')
    (hs : ∀ j x H' H1 acc, j < n → Pv j H' acc → J1.yld j H' x H1 → g1 x (wipe σ vs1) H1 fun σ3 H5 => wipe σ3 vs1 = wipe σ vs1 ∧ tt1 σ3 H5 fun b H6 => if b = true then te σ3 H6 (TurnC (fun _ => Pv) A j) else ∃ acc', Pv (j + 1) H6 acc')
    (hd : ∀ H' acc, Pv n H' acc → Nx H') : InnQ J1 g1 tt1 te vs1 σ A Nx H := by
  refine ⟨fun j m H' => m = n - j ∧ j ≤ n ∧ ∃ acc, Pv j H' acc, ⟨n, by simp, Nat.zero_le _, _, h0⟩, ?_⟩
  rintro j m H' ⟨rfl, hj, acc, hp⟩
  by_cases hlt : j < n
  · exact .inr ⟨hgo j H' acc hlt hp, fun H'' => ∃ acc, Pv (j + 1) H'' acc, fun H'' ⟨acc, p⟩ => ⟨n - (j + 1), by omega, rfl, hlt, acc, p⟩, fun x H1 hy => hs j x H' H1 acc hlt hp hy⟩
  · have e : j = n := by omega
    subst e
    exact .inl ⟨hst H' acc hp, hd H' acc hp⟩
theorem lcq_y (Pv : Addr → Nat → Hp → List V → Prop) (h0 : ∀ A H', Same H H' → H A = none → H' A = some (.lst []) → Pv A 0 H' [])
    (hgo : ∀ A i H' acc, i < n → Pv A i H' acc → J.go i H') (hst : ∀ A H' acc, Pv A n H' acc → J.stop n H')
    (hs : ∀ A i x H' H1 acc, i < n → Pv A i H' acc → J.yld i H' x H1 → g x (wipe σ vs) H1 fun σ2 H2 => wipe σ2 vs = wipe σ vs ∧ te σ2 H2 (TurnC Pv A i))
    (hd : ∀ A H' acc, Pv A n H' acc → Q (.ref A) H') : LcQ J g tYes te vs σ H Q := lcq_n Pv h0 hgo hst hs hd
theorem dcq_y (Pv : Addr → Nat → Hp → List (Key × V) → Prop) (h0 : ∀ A H', Same H H' → H A = none → H' A = some (.dK []) → Pv A 0 H' [])
    (hgo : ∀ A i H' acc, i < n → Pv A i H' acc → J.go i H') (hst : ∀ A H' acc, Pv A n H' acc → J.stop n H')
    (hs : ∀ A i x H' H1 acc, i < n → Pv A i H' acc → J.yld i H' x H1 → g x (wipe σ vs) H1 fun σ2 H2 => wipe σ2 vs = wipe σ vs ∧ tk σ2 H2 fun y H4 => tv σ2 H4 (TurnD Pv A i y))
    (hd : ∀ A H' acc, Pv A n H' acc → Q (.ref A) H') : DcQ J g tYes tk tv vs σ H Q := dcq_n Pv h0 hgo hst hs hd
theorem lcq2_y {wi1 : TI} {g1 : TG} {tt1 : TT} {vs1 : List Nat} (Pv : Addr → Nat → Hp → List V → Prop) (h0 : ∀ A H', Same H H' → H A = none → H' A = some (.lst []) → Pv A 0 H' [])
    (hgo : ∀ A i H' acc, i < n → Pv A i H' acc → J.go i H') (hst : ∀ A H' acc, Pv A n H' acc → J.stop n H')
    (hs : ∀ A i x H' H1 acc, i < n → Pv A i H' acc → J.yld i H' x H1 → g x (wipe σ vs) H1 fun σ2 H2 => wipe σ2 vs = wipe σ vs ∧ wi1 σ2 H2 fun J1 H4 => InnQ J1 g1 tt1 te vs1 σ2 A (fun H'' => ∃ acc', Pv A (i + 1) H'' acc') H4)
    (hd : ∀ A H' acc, Pv A n H' acc → Q (.ref A) H') : Lc2Q J g tYes wi1 g1 tt1 te vs vs1 σ H Q := lcq2_n Pv h0 hgo hst hs hd
theorem inn_y {J1 : It} {g1 : TG} {vs1 : List Nat} {A : Addr} {Nx : Hp → Prop} (Pv : Nat → Hp → List V → Prop) {acc0 : List V} (h0 : Pv 0 H acc0)
    (hgo : ∀ j H' acc, j < n → Pv j H' acc → J1.go j H') (hst : ∀ H' acc, Pv n H' acc → J1.stop n H')
    (hs : ∀ j x H' H1 acc, j < n → Pv j H' acc → J1.yld j H' x H1 → g1 x (wipe σ vs1) H1 fun σ3 H5 => wipe σ3 vs1 = wipe σ vs1 ∧ te σ3 H5 (TurnC (fun _ => Pv) A j))
    (hd : ∀ H' acc, Pv n H' acc → Nx H') : InnQ J1 g1 tYes te vs1 σ A Nx H := inn_n Pv h0 hgo hst hs hd
/-! ### two lists at once -/
def ZipQ (K : PySem.W.Frag) (vs : List V) (H : Hp) (R : It → Hp → Prop) : Prop := ∃ a b xs ys, vs = [.ref a, .ref b] ∧ SqL K H a xs ∧ SqL K H b ys ∧ R (Itz K a b) H
theorem i_zip {t : TA} {R : It → Hp → Prop} (h : t σ H fun vs H1 => ZipQ K vs H1 R) : iZip K t σ H R := h
theorem i_zipv {a b : Addr} {xs ys : List V} {R : It → Hp → Prop} (ha : SqL K H a xs) (hb : SqL K H b ys) (h : R (Itz K a b) H) : ZipQ K [.ref a, .ref b] H R := ⟨a, b, xs, ys, rfl, ha, hb, h⟩
theorem zip_yld {a b T : Addr} {xs ys : List V} {i : Nat} {x : V} {H H1 : Hp} (ha : SqL K H a xs) (hb : SqL K H b ys) (hy : (Itz K a b).yld i H x H1) : ∃ T u v, x = .ref T ∧ H T = none ∧ Same H H1 ∧ H1 T = some (.tup [u, v]) ∧ xs[i]? = some u ∧ ys[i]? = some v := by
  obtain ⟨T, u, v, rfl, hT, rfl, h1, h2⟩ := hy
  exact ⟨T, u, v, rfl, hT, fun c o e => by rw [upd_ne (ne_of_none e hT)]; exact e, upd_same, h1 _ ha, h2 _ hb⟩
theorem dcq_zip {a b : Addr} {xs ys : List V} (hlen : xs.length = ys.length) (Pv : Addr → Nat → Hp → List (Key × V) → Prop) (h0 : ∀ A H', Same H H' → H A = none → H' A = some (.dK []) → Pv A 0 H' [])
    (hl : ∀ A i H' acc, Pv A i H' acc → SqL K H' a xs ∧ SqL K H' b ys)
    (hs : ∀ A i u v H' H1 T acc, xs[i]? = some u → ys[i]? = some v → Pv A i H' acc → Same H' H1 → H' T = none → H1 T = some (.tup [u, v]) → g (.ref T) (wipe σ vs) H1 fun σ2 H2 => wipe σ2 vs = wipe σ vs ∧ tk σ2 H2 fun y H4 => tv σ2 H4 (TurnD Pv A i y))
    (hd : ∀ A H' acc, Pv A xs.length H' acc → Q (.ref A) H') : DcQ (Itz K a b) g tYes tk tv vs σ H Q := by
  refine dcq_y (n := xs.length) Pv h0 (fun A i H' acc hi p => ?_) (fun A H' acc p => ?_) (fun A i x H' H1 acc hi p hy => ?_) hd
  · obtain ⟨q1, q2⟩ := hl A i H' acc p
    exact ⟨xs, ys, xs[i], ys[i], q1, q2, by simp [hi], by simp⟩
  · obtain ⟨q1, q2⟩ := hl A _ H' acc p
    exact ⟨xs, ys, q1, q2, .inl (Nat.le_refl _)⟩
  · obtain ⟨q1, q2⟩ := hl A i H' acc p
    obtain ⟨T, u, v, rfl, hT, S, eT, e1, e2⟩ := zip_yld (T := 0) q1 q2 hy
    exact hs A i u v H' H1 T acc e1 e2 p S hT eT
theorem lcq_zip {a b : Addr} {xs ys : List V} (hlen : xs.length = ys.length) (Pv : Addr → Nat → Hp → List V → Prop) (h0 : ∀ A H', Same H H' → H A = none → H' A = some (.lst []) → Pv A 0 H' [])
    (hl : ∀ A i H' acc, Pv A i H' acc → SqL K H' a xs ∧ SqL K H' b ys)
    (hs : ∀ A i u v H' H1 T acc, xs[i]? = some u → ys[i]? = some v → Pv A i H' acc → Same H' H1 → H' T = none → H1 T = some (.tup [u, v]) → g (.ref T) (wipe σ vs) H1 fun σ2 H2 => wipe σ2 vs = wipe σ vs ∧ te σ2 H2 (TurnC Pv A i))
    (hd : ∀ A H' acc, Pv A xs.length H' acc → Q (.ref A) H') : LcQ (Itz K a b) g tYes te vs σ H Q := by
  refine lcq_y (n := xs.length) Pv h0 (fun A i H' acc hi p => ?_) (fun A H' acc p => ?_) (fun A i x H' H1 acc hi p hy => ?_) hd
  · obtain ⟨q1, q2⟩ := hl A i H' acc p
    exact ⟨xs, ys, xs[i], ys[i], q1, q2, by simp [hi], by simp⟩
  · obtain ⟨q1, q2⟩ := hl A _ H' acc p
    exact ⟨xs, ys, q1, q2, .inl (Nat.le_refl _)⟩
  · obtain ⟨q1, q2⟩ := hl A i H' acc p
    obtain ⟨T, u, v, rfl, hT, S, eT, e1, e2⟩ := zip_yld (T := 0) q1 q2 hy
    exact hs A i u v H' H1 T acc e1 e2 p S hT eT
theorem while_q {c : TT} {tb : TS} {D : Ends} {σ : L2.St} {H : Hp} (Pv : L2.St → Hp → Prop) (μ : L2.St → Hp → Nat) (h0 : Pv σ H)
    (hs : ∀ σ' H', Pv σ' H' → ∀ QB : Bool → Hp → Prop, (∀ H1, tb { D with nx := fun σ'' H'' => Pv σ'' H'' ∧ μ σ'' H'' < μ σ' H', ct := fun σ'' H'' => Pv σ'' H'' ∧ μ σ'' H'' < μ σ' H', bk := D.nx } σ' H1 → QB true H1) → (∀ H1, D.nx σ' H1 → QB false H1) → c σ' H' QB) : tWhile c tb D σ H := by
  refine ⟨fun m σ H => m = μ σ H ∧ Pv σ H, ⟨_, rfl, h0⟩, ?_⟩
  rintro m σ H ⟨rfl, p⟩
  exact hs σ H p _ (fun H1 q => ⟨_, fun σ' H' ⟨p', l⟩ => ⟨_, l, rfl, p'⟩, q⟩) (fun H1 q => q)
def rLenDN : List V → Hp → VK → Prop := fun xs H Q => ∃ a kvs, xs = [V.ref a] ∧ H a = some (.dK kvs) ∧ Q (.int kvs.length) H
theorem cr_lenDN {X : Cx} : CallR X (.builtin "len") rLenDN := call_lenD
theorem i_lenD {a : Addr} {kvs : List (Key × V)} {H : Hp} (h : H a = some (.dK kvs)) (q : Q (.int kvs.length) H) : rLenDN [.ref a] H Q := ⟨a, kvs, rfl, h, q⟩
/-! ### tuples, whole or not -/
theorem cut_all {xs : List V} {lo hi : Option Int} (h : HT.sIx xs.length 0 lo = 0 ∧ HT.sIx xs.length xs.length hi = xs.length) : cutV xs lo hi = xs := by
  unfold cutV
  rw [h.1, h.2, List.drop_zero, Nat.sub_zero, List.take_length]
theorem i_slA {a : Addr} {xs : List V} {lo hi : Option Int} {H : Hp} (ha : SqT K H a xs) (h : ∀ p H', Same H H' → SqT K H' p (cutV xs lo hi) → Q (.ref p) H') : rSlA K (.ref a) lo hi H Q :=
  ⟨a, xs, rfl, ha, fun w => h a H (Same.refl _) (by rw [cut_all w]; exact ha), fun _ p hp => h p _ (fun b u e => by rw [upd_ne (ne_of_none e hp)]; exact e) (.of upd_same)⟩
theorem i_catA {a b : Addr} {xs ys : List V} {H : Hp} (ha : SqT K H a xs) (hb : SqT K H b ys) (hz : xs.length + ys.length ≤ sizeLine) (h : ∀ p H', Same H H' → SqT K H' p (xs ++ ys) → Q (.ref p) H') : rCatA K (.ref a) (.ref b) H Q :=
  ⟨a, b, xs, ys, rfl, rfl, ha, hb, hz, fun e => h b H (Same.refl _) (by rw [e]; exact hb), fun _ e => h a H (Same.refl _) (by rw [e, List.append_nil]; exact ha), fun _ _ p hp => h p _ (fun c u e => by rw [upd_ne (ne_of_none e hp)]; exact e) (.of upd_same)⟩
theorem cut_from {xs : List V} {i : Nat} (h : i ≤ xs.length) : cutV xs (some (i : Int)) none = xs.drop i := by
  have e1 : HT.sIx xs.length 0 (some (i : Int)) = i := by
    rw [HT.sIx_nat]
    omega
  have e2 : HT.sIx xs.length xs.length none = xs.length := rfl
  unfold cutV
  rw [e1, e2, List.take_of_length_le (by rw [List.length_drop]; omega)]
theorem cut_to {xs : List V} {i : Nat} (h : i ≤ xs.length) : cutV xs none (some (i : Int)) = xs.take i := by
  have e1 : HT.sIx xs.length 0 none = 0 := rfl
  have e2 : HT.sIx xs.length xs.length (some (i : Int)) = i := by
    rw [HT.sIx_nat]
    omega
  unfold cutV
  rw [e1, e2, List.drop_zero, Nat.sub_zero]
theorem i_ltD {x y : V} {d e : PyData} {H : Hp} (hd : Dp K H x d) (he : Dp K H y e) (ha : PySem.W.alike d e = true) (hn : d ≠ .none) (hz : d.depth < 60) (h : Q (.bl (PySem.W.dataLt d e)) H) : rLtD K x y H Q := ⟨d, e, hd, he, ha, hn, hz, h⟩
theorem i_catL {a b : Addr} {xs ys : List V} {H : Hp} (ha : H a = some (.lst xs)) (hb : H b = some (.lst ys)) (hz : xs.length + ys.length ≤ sizeLine) (h : ∀ p H', Same H H' → H p = none → H' p = some (.lst (xs ++ ys)) → Q (.ref p) H') : rCat (.ref a) (.ref b) H Q :=
  ⟨a, b, xs, ys, rfl, rfl, ha, hb, hz, i_new h⟩
end
/-! ### what benches tell -/
section
variable {X : Cx} {CX : CXT} {k : Nat} {m qual : Str} {st : Stmt} {sp : Sp} {C : Addr} {K : PySem.W.Frag}
theorem pe_fldK {f : Str} {e : Expr} {ta : TE} {pos : Pos} (hK : X.K = K) (he : PE X e ta) (hb : attributeBase e f X.env (eval e X.env) = eval e X.env) : PE X (.Attribute e f pos) (tFld K ta f) := by
  subst hK
  exact pe_fld he hb
/-- an own instance and a value of a built-in kind -/
def rOwnX (K : PySem.W.Frag) (C : Addr) (sp : Sp) : R2 := fun x y H Q => ∃ (a dx : Addr) (fs : List (Str × V)) (n : String), x = .ref a ∧ H a = some (.ins C dx fs) ∧ TyX K H y (.type n) ∧ PySem.W.notFirst K C (.type n) = true ∧ sp [x, y] H Q E0
theorem cm_ownXK {op : CmpOp} (hK : X.K = K) (g : GOp K C m qual st) (hm : (PySem.cmpInfo op).2.1 = m) (hop : ∀ v u, compareOp op v u = richCompare op v u) (F : FnAt X.prog X.w K X.mg X.base CX k (He.ma K C m) ["self", "other"] sp) (hr : Room k X.A)
    (hx : Passes CX X E0 := by first | exact pass0 | exact passL) : OpR X (compareOp op) (rOwnX K C sp) := by
  subst hK
  rintro pins s σ H x y v u Q I rx ry ⟨a, dx, fs, n, rfl, ha, hk, hn, hsp⟩
  cases rx
  obtain ⟨mA, J, _⟩ := ins_get I.hok ha
  obtain ⟨od, J, _⟩ := J.look
  obtain ⟨P, kit, hp, _⟩ := kit_of I ry hk
  obtain ⟨mm, hF⟩ := I.fr
  subst hm
  rw [hop]
  refine PySem.W.cmp_K (tb := .type n) hr.units0 hF I.ok.mod.kin J (kit.ty _ _ I.kIn hp) hn g.at_ g.fn ?_
  exact thn (run_fn (vs := [.ref a, y]) F hr g.b .nil hx I (.cons rfl (.cons ry .nil)) hsp) fun r s' q => back_of q
end
def spBText (K : PySem.W.Frag) (C : Addr) : Sp := fun vs H Q _ => ∃ (b : Addr) (L : Lore), vs = [.ref b] ∧ BenAt K C H b L ∧ Q (.str (textOf L)) H
def spBSpread (K : PySem.W.Frag) (C : Addr) : Sp := fun vs H Q _ => ∃ (b : Addr) (L : Lore), vs = [.ref b] ∧ BenAt K C H b L ∧ Q (.int L.spread) H
def spBNames (K : PySem.W.Frag) (C : Addr) (f : Lore → List Str) : Sp := fun vs H Q _ => ∃ (b : Addr) (L : Lore), vs = [.ref b] ∧ BenAt K C H b L ∧ (f L).length ≤ 100 ∧ ∀ p H', Same H H' → H p = none → H' p = some (.tup ((f L).map V.str)) → Q (.ref p) H'
def spBSettings (K : PySem.W.Frag) (C : Addr) : Sp := fun vs H Q _ => ∃ (b : Addr) (L : Lore), vs = [.ref b] ∧ BenAt K C H b L ∧ ∀ p, Dp K H (.ref p) (settingsD L) → Q (.ref p) H
def firstOf (L : Lore) : List Str := L.meters.map fun m => (m.2.map (·.n)).headD ""
def spBFirst (K : PySem.W.Frag) (C : Addr) : Sp := fun vs H Q _ => ∃ (b : Addr) (L : Lore), vs = [.ref b] ∧ BenAt K C H b L ∧ LoreOk L ∧ ∀ p H', Same H H' → Dp K H' (.ref p) (settingD (firstOf L, [])) → Q (.ref p) H'
def spBLoad (K : PySem.W.Frag) (C : Addr) : Sp := fun vs H Q _ => ∃ (b : Addr) (L : Lore) (n : Str) (q : Rat), vs = [.ref b, .str n] ∧ BenAt K C H b L ∧ (L.loads.map (·.1)).Nodup ∧ (n, q) ∈ L.loads ∧ ∀ a, SqT K H a (rat q) → Q (.ref a) H
def spBItem (K : PySem.W.Frag) (C : Addr) : Sp := fun vs H Q _ => ∃ (b : Addr) (L : Lore) (n : Str) (rows : List Row), vs = [.ref b, .str n] ∧ BenAt K C H b L ∧ (L.meters.map (·.1)).Nodup ∧ (n, rows) ∈ L.meters ∧ ∀ a, Dp K H (.ref a) (.tuple (rows.map fun r => rowD (lowR L.spread r))) → Q (.ref a) H
def spBIn (K : PySem.W.Frag) (C : Addr) : Sp := fun vs H Q _ => ∃ (b : Addr) (L : Lore) (x : V), vs = [.ref b, x] ∧ BenAt K C H b L ∧ ((∃ n : Str, x = .str n ∧ Q (.bl (decide (n ∈ L.meters.map (·.1)))) H) ∨ ∃ n : String, TyX K H x (.type n) ∧ kitB n "str" = some false ∧ Q (.bl false) H)
def spBLen (K : PySem.W.Frag) (C : Addr) : Sp := fun vs H Q _ => ∃ (b : Addr) (L : Lore), vs = [.ref b] ∧ BenAt K C H b L ∧ Q (.int L.meters.length) H
def spBEq (K : PySem.W.Frag) (C : Addr) : Sp := fun vs H Q _ => ∃ (a : Addr) (L : Lore) (x : V), vs = [.ref a, x] ∧ BenAt K C H a L ∧ ((∃ (b : Addr) (M : Lore), x = .ref b ∧ BenAt K C H b M ∧ Q (.bl (decide (textOf L = textOf M))) H) ∨ ∃ n : String, TyX K H x (.type n) ∧ PySem.W.kitOne K (.type n) (.ref C) = some false ∧ Q (.bl false) H)
theorem KP.isSome {α : Type} {R : V → α → Prop} {kvs : List (Key × V)} {ls : List (Str × α)} (h : KP R kvs ls) (n : Str) : (valV kvs (.inr n)).isSome = decide (n ∈ ls.map (·.1)) := by
  induction h with
  | nil => simp [valV_nil]
  | @cons x y xs ys r t ih =>
    by_cases e : x.1 = Sum.inr n
    · have : y.1 = n := Sum.inr.inj (r.1.symm.trans e)
      rw [valV_pos e]
      simp [this]
    · have : ¬ n = y.1 := fun z => e (r.1.trans (by rw [z]))
      rw [valV_neg e, ih]
      simp [this]
theorem i_isiX {x : V} {K : PySem.W.Frag} {H : Hp} {Q : VK} {b : Bool} {n m : String} (ty : TyX K H x (.type n)) (e : kitB n m = some b) (h : Q (.bl b) H) : rIsi K [x, .ty m] H Q := ⟨_, _, _, _, b, rfl, .ty m, ty, kit_ty e, h⟩
theorem i_isiC {x : V} {K : PySem.W.Frag} {H : Hp} {Q : VK} {b : Bool} {n : String} {C : Addr} (ty : TyX K H x (.type n)) (e : PySem.W.kitOne K (.type n) (.ref C) = some b) (h : Q (.bl b) H) : rIsi K [x, .ref C] H Q := ⟨_, _, _, _, b, rfl, .own C, ty, e, h⟩
section
variable {K : PySem.W.Frag} {C a b p : Addr} {H H' : Hp} {L : Lore}
theorem _root_.L2.KP_same {α : Type} {R S : V → α → Prop} {kvs : List (Key × V)} {ls : List (Str × α)} (h : KP R kvs ls) (f : ∀ v a, R v a → S v a) : KP S kvs ls := h.imp f
theorem BenAt.same (h : BenAt K C H b L) (S : Same H H') : BenAt K C H' b L := by
  obtain ⟨dx, rd, ld, st, kvs, lks, eb, er, el, hk, hl, hs, hn⟩ := h
  exact ⟨dx, rd, ld, st, kvs, lks, S _ _ eb, S _ _ er, S _ _ el, hk.imp fun _ _ h => Dp.same h S, hl.imp fun _ _ h => Dp.same h S, hs.same S, hn⟩
/-- a list changes -/
theorem BenAt.but {l : List V} (h : BenAt K C H b L) (hp : H p = some (.lst l)) (B : But p H H') : BenAt K C H' b L := by
  obtain ⟨dx, rd, ld, st, kvs, lks, eb, er, el, hk, hl, hs, hn⟩ := h
  have ne : ∀ (q : Addr) (o : HO), H q = some o → (∀ l, o ≠ .lst l) → q ≠ p := fun q o e n z => by rw [z, hp] at e; cases e; exact n _ rfl
  exact ⟨dx, rd, ld, st, kvs, lks, B _ _ (ne _ _ eb fun _ z => by cases z) eb, B _ _ (ne _ _ er fun _ z => by cases z) er, B _ _ (ne _ _ el fun _ z => by cases z) el,
    hk.imp fun _ rows h => dp_butN hp trivial B (noL_rows _ rows) h, hl.imp fun _ _ h => dp_butN hp trivial B (noL_rat _) h, dp_butN hp trivial B (noL_settings L) hs, hn⟩
theorem i_eqOwnX {sp : Sp} {y : V} {n : String} {dx : Addr} {fs : List (Str × V)} {Q : VK} (ha : H a = some (.ins C dx fs)) (ty : TyX K H y (.type n)) (nf : PySem.W.notFirst K C (.type n) = true) (h : sp [.ref a, y] H Q E0) : rOwnX K C sp (.ref a) y H Q := ⟨a, dx, fs, n, rfl, ha, ty, nf, h⟩
end
end My

/-! own layer, 20: lambdas as values; a caught error that is kept -/
namespace My
open PySem PySem.Spec PyProof.Rows L2 LamX
/-- the lambda of this text, made in the frame env, stands at f -/
def lamO (env : Env) (ps : Arguments) (body : Expr) (sc : Scope) (c f : Addr) : HO := .ext fun h => ∃ (pm ctv : Value), h.get? f = some (PySem.W.kla_obj "<lambda>" (env.qual ++ "<lambda>") ps body sc (cloFrom env.cells sc.names []) pm c ctv)
theorem lamO_ok {P : Program} {w : World} {H : Hp} {h : Heap} {env : Env} {ps : Arguments} {body : Expr} {sc : Scope} {c f : Addr} {pm ctv : Value} (e : h.get? f = some (PySem.W.kla_obj "<lambda>" (env.qual ++ "<lambda>") ps body sc (cloFrom env.cells sc.names []) pm c ctv)) :
    ObjOk P w H h f (lamO env ps body sc c f) := ⟨⟨pm, ctv, e⟩, ⟨_, e⟩, fun h1 h2 ⟨a, b, q⟩ k => ⟨a, b, k _ q⟩⟩
def LamAt (env : Env) (ps : Arguments) (body : Expr) (sc : Scope) (H : Hp) (f : Addr) : Prop := ∃ c, H f = some (lamO env ps body sc c f) ∧ H c = some (CodeO c (env.qual ++ "<lambda>"))
section
variable {env : Env} {ps : Arguments} {body : Expr} {sc : Scope} {H H' : Hp} {f p : Addr}
theorem LamAt.ext (h : LamAt env ps body sc H f) (e : ∀ b o, H b = some o → (∀ r, o ≠ .tbl r) → (∀ xs, o ≠ .lst xs) → H' b = some o) : LamAt env ps body sc H' f := by
  obtain ⟨c, h1, h2⟩ := h
  exact ⟨c, e _ _ h1 (fun r z => by unfold lamO at z; cases z) (fun r z => by unfold lamO at z; cases z), e _ _ h2 (fun r z => by unfold CodeO at z; cases z) (fun r z => by unfold CodeO at z; cases z)⟩
theorem LamAt.same (h : LamAt env ps body sc H f) (S : Same H H') : LamAt env ps body sc H' f := h.ext fun b o e _ _ => S b o e
theorem LamAt.but {xs : List V} (h : LamAt env ps body sc H f) (hp : H p = some (.lst xs)) (B : But p H H') : LamAt env ps body sc H' f := h.ext fun b o e _ n => B b o (ne_of e hp (n xs)) e
theorem LamAt.extN (h : LamAt env ps body sc H f) (E : ExtN H H') : LamAt env ps body sc H' f := h.ext fun b o e n _ => E b o e n
end
section
variable {X : Cx} {pins : List (Addr × Obj)} {σ : L2.St} {H : Hp} {s : Shared}
/-- a lambda is made and known from now on -/
theorem lam_new {T : List (Addr × Str)} {c P : Addr} {ps : Arguments} {body : Expr} {sc : Scope} {pos : Pos} {E : Value → Shared → Prop} {Q : Value → Shared → Prop} (I : L2.Inv X pins σ H s) (TB : TabB X.base X.mg c P) (hcode : X.env.code = .ref c)
    (hm : (P, X.env.qual ++ "<lambda>") ∈ T) (hu : ∀ p ∈ T, p.1 = P → p.2 = X.env.qual ++ "<lambda>") (hT : Tabs T H) (hdef : defaultsOf ps X.env = ([], [])) (hfree : ∀ y ∈ sc.names, y.2 = .free → ∃ c, X.env.cells.lookup y.1 = some c)
    (k : ∀ (f : Addr) (H1 : Hp) (s' : Shared), L2.Inv X pins σ H1 s' → ExtN H H1 → Tabs T H1 → H f = none → LamAt X.env ps body sc H1 f → Q (.ref f) s') : wpAny (model X.prog X.w) X.A (eval (.Lambda ps body sc pos) X.env) Q E s := by
  obtain ⟨rows, hP, tr, all⟩ := hT _ hm
  have tab : s.heap.get? P = some { cls := .none, data := .fields rows } := I.hok P _ hP
  refine PySem.W.kla_eval hdef ?_
  cases hc : codeAmong pos rows.toList with
  | some cv =>
    obtain ⟨c1, rfl, known⟩ := all pos cv hc
    refine PySem.W.kla_makeFunctionHit (closure_ok hfree) I.ok.glob (I.mod.glob.keeps I.bk) hcode (TB.code.keeps I.bk) tab tr hc (TB.bm.keeps I.bk) ?_
    intro ctv h' tk old big
    have new : H h'.objs.size = none := I.hok.fresh big
    have J := I.laid (t' := tk) (a := h'.objs.size) (o := lamO X.env ps body sc c1 h'.objs.size) (h' := h'.push (PySem.W.kla_obj "<lambda>" (X.env.qual ++ "<lambda>") ps body sc (cloFrom X.env.cells sc.names []) ((X.mg "__name__").getD .none) c1 ctv))
      (fun b o e => Heap.get?_push_of_some _ (old b o e)) big (lamO_ok (Heap.get?_push_size _ rfl))
    have up : ∀ b o, H b = some o → upd H h'.objs.size (lamO X.env ps body sc c1 h'.objs.size) b = some o := fun b o e => by
      rw [upd_ne (ne_of_none e new)]
      exact e
    exact k _ _ _ J (ExtN.of up) (hT.ext up) new ⟨c1, upd_same, up _ _ known⟩
  | none =>
    refine PySem.W.kla_makeFunction (closure_ok hfree) I.ok.glob (I.mod.glob.keeps I.bk) hcode (TB.code.keeps I.bk) tab tr hc TB.gP (TB.bm.keeps I.bk) ?_
    intro c1 ctv h' tk old ge lt rec htb
    obtain ⟨c2, oc, vs, t, e2, hoc, hd, hv⟩ := rec
    cases e2
    have J1 := inv_table (q := X.env.qual ++ "<lambda>") (t' := tk) (more := #[rawInt pos.line, rawInt pos.col, .ref c1]) I hP (fun b o hb e => old b o hb e) htb ge ⟨oc, vs, t, hoc, hd, hv⟩
    have nc : H c1 = none := I.hok.fresh ge
    have big : s.heap.objs.size ≤ h'.objs.size := Nat.le_trans ge (Nat.le_of_lt lt)
    have nf : H h'.objs.size = none := I.hok.fresh big
    generalize e1 : upd (upd H P (.tbl (rows ++ #[rawInt pos.line, rawInt pos.col, .ref c1]))) c1 (CodeO c1 (X.env.qual ++ "<lambda>")) = H1 at J1
    have at1 : ∀ b o, H b = some o → (∀ r, o ≠ .tbl r) → H1 b = some o := fun b o e n => by
      rw [← e1, upd_ne (ne_of_none e nc), upd_ne (fun z => n rows (Option.some.inj (e.symm.trans (by rw [z]; exact hP))))]
      exact e
    have atC : H1 c1 = some (CodeO c1 (X.env.qual ++ "<lambda>")) := by rw [← e1]; exact upd_same
    have n1 : H1 h'.objs.size = none := J1.hok.fresh (Nat.le_refl _)
    have J := J1.laid (t' := tk) (a := h'.objs.size) (o := lamO X.env ps body sc c1 h'.objs.size) (h' := h'.push (PySem.W.kla_obj "<lambda>" (X.env.qual ++ "<lambda>") ps body sc (cloFrom X.env.cells sc.names []) ((X.mg "__name__").getD .none) c1 ctv))
      (fun b o e => Heap.get?_push_of_some _ e) (Nat.le_refl _) (lamO_ok (Heap.get?_push_size _ rfl))
    have up : ∀ b o, H1 b = some o → upd H1 h'.objs.size (lamO X.env ps body sc c1 h'.objs.size) b = some o := fun b o e => by
      rw [upd_ne (ne_of_none e n1)]
      exact e
    refine k _ _ _ J (fun b o e n => up _ _ (at1 b o e n)) (fun p hp => ?_) nf ⟨c1, upd_same, up _ _ atC⟩
    by_cases hb : p.1 = P
    · rw [hu p hp hb, hb]
      have eL : (rows ++ #[rawInt pos.line, rawInt pos.col, .ref c1]).toList = rows.toList ++ [rawInt pos.line, rawInt pos.col, .ref c1] := by simp
      refine ⟨_, up _ _ (by rw [← e1, upd_ne (ne_of_none hP nc), upd_same]), by rw [eL]; exact PySem.TriplesOk_snoc _ _ _ _ tr, fun p' cv hcv => ?_⟩
      rw [eL] at hcv
      rcases among_app _ tr hcv with z | z
      · obtain ⟨c0, e0, e3⟩ := all p' cv z
        exact ⟨c0, e0, up _ _ (at1 _ _ e3 codeO_ne)⟩
      · exact ⟨c1, z, up _ _ atC⟩
    · obtain ⟨ps', a1, a2, a3⟩ := hT p hp
      have stay : H1 p.1 = some (.tbl ps') := by
        rw [← e1, upd_ne (ne_of_none a1 nc), upd_ne hb]
        exact a1
      refine ⟨ps', up _ _ stay, a2, fun p' cv hcv => ?_⟩
      obtain ⟨c0, e0, e3⟩ := a3 p' cv hcv
      exact ⟨c0, e0, up _ _ (at1 _ _ e3 codeO_ne)⟩
/-- lambda: body, as a value -/
def tLamV (T : List (Addr × Str)) (env : Env) (ps : Arguments) (body : Expr) (sc : Scope) : TE := fun _ H Q => Tabs T H ∧ ∀ (f : Addr) (H1 : Hp), ExtN H H1 → Tabs T H1 → H f = none → LamAt env ps body sc H1 f → Q (.ref f) H1
theorem pe_lamV {T : List (Addr × Str)} {c P : Addr} {ps : Arguments} {body : Expr} {sc : Scope} {pos : Pos} (TB : TabB X.base X.mg c P) (hcode : X.env.code = .ref c) (hm : (P, X.env.qual ++ "<lambda>") ∈ T) (hu : ∀ p ∈ T, p.1 = P → p.2 = X.env.qual ++ "<lambda>")
    (L : LamS X.env.scope sc) (hdef : defaultsOf ps X.env = ([], [])) : PE X (.Lambda ps body sc pos) (tLamV T X.env ps body sc) :=
  ⟨fun pins s σ H Q I h => lam_new I TB hcode hm hu h.1 hdef (L.has I.ok) fun f H1 s' J eN T1 n at_ => ⟨.ref f, H1, J, rfl, h.2 f H1 eN T1 n at_⟩⟩
end
/-! ### an object that is there becomes known -/
section
variable {X : Cx} {pins : List (Addr × Obj)} {σ : L2.St} {H : Hp} {s : Shared}
theorem Inv.track {a : Addr} {o : HO} (I : L2.Inv X pins σ H s) (ha : H a = none) (h0 : X.s_0.heap.get? a = none) (nL : a ≠ X.env.locals) (nC : ∀ v, ¬ s.heap.IsCell a v) (nP : ∀ p ∈ X.pn ++ pins, p.1 ≠ a) (ok : ObjOk X.prog X.w (upd H a o) s.heap a o) : L2.Inv X pins σ (upd H a o) s := by
  have at_ : ∀ {b : Addr} {u : HO}, H b = some u → upd H a o b = some u := fun {b u} e => by
    rw [upd_ne (ne_of_none e ha)]
    exact e
  have old : ∀ {b : Addr} {u : Obj}, X.s_0.heap.get? b = some u → b ≠ a := fun {b u} e z => by
    rw [z, h0] at e
    cases e
  refine ⟨I.ok, I.os, I.bare, ⟨I.base.keep, I.base.slot, fun b u e n hx => ?_, I.base.there, fun b xs e => at_ (I.base.tups b xs e), fun b u v e => at_ (I.base.frzs b u v e), fun b rows e => ?_⟩, I.loc, I.cell, ?_, fun y c e => ?_, fun p hp => ?_, fun b u e => ?_, I.len⟩
  · rw [upd_ne (old e)]
    exact I.base.free b u e n hx
  · obtain ⟨more, z⟩ := I.base.tbls b rows e
    exact ⟨more, at_ z⟩
  · rw [upd_ne (Ne.symm nL)]
    exact I.free
  · rw [upd_ne (fun z => by
      obtain ⟨v, q⟩ := I.cell y c e
      rw [z] at q
      exact nC v q)]
    exact I.freeC y c e
  · obtain ⟨e, n, r⟩ := I.pin p hp
    exact ⟨e, by rw [upd_ne (nP p hp)]; exact n, r⟩
  · by_cases hb : b = a
    · subst hb
      rw [upd_same] at e
      cases e
      exact ok
    · rw [upd_ne hb] at e
      exact (I.hok b u e).stay (fun c v _ q => q) (fun c q => at_ q) fun c xs q => at_ q
end
end My

/-! own layer, 21: a def that is handed a lambda and calls it -/
namespace My
open PySem PySem.Spec PyProof.Rows L2 LamX
section
variable {X : Cx} {pins : List (Addr × Obj)} {σ : L2.St} {H : Hp} {s : Shared}
/-- the context of the def at g, entered at s -/
abbrev inDef (X : Cx) (Ng : List Str) (q : Str) (sg : Scope) (g : Addr) (cdg : Value) (s : Shared) (H : Hp) : Cx := cxOf CX0 X.prog X.w X.K X.mg X.base Ng q sg g cdg X.A X.stack s H E0
/-- a(), a holding a lambda of the frame that called -/
theorem pe_actV {Ng : List Str} {qg : Str} {sg : Scope} {g f : Addr} {cdg : Value} {ps : Arguments} {body : Expr} {sc : Scope} {k i : Nat} {a : Str} {pn : List (Addr × Obj)} {xe : Value → Shared → Prop} {W : WX} {E : XK} {tb : TE} {p1 p2 : Pos}
    (I : L2.Inv X pins σ H s) (L : LamS X.env.scope sc) (hbind : ∀ (cl : List (Str × Addr)) (pm cv ctv : Value), bindArgs (PySem.W.kla_fn "<lambda>" (X.env.qual ++ "<lambda>") ps body sc cl pm cv ctv) ⟨[], []⟩ = pure [])
    (tk : Takes ((inDef X Ng qg sg g cdg s H).tr pn xe) W) (hr : Room (k + 1) (X.A.deeper (envOfC qg sg s.heap.objs.size g cdg)))
    (hbody : ∀ (A : Around) (outer : List Env) (s : Shared) (H : Hp) (c' : Addr), Room k (A.deeper (lamEnv X sc s.heap.objs.size f c')) → PE (lamCx X A outer s H E sc f c') body tb)
    (hN : Ng[i]? = some a) (hv : Vis sg a) (hd : (a == ("__debug__" : Str)) = false := by decide) (hcd : (a == ("__classdict__" : Str)) = false := by decide) :
    PE ((inDef X Ng qg sg g cdg s H).tr pn xe) (.Call (.Name a p1) [] [] p2) (fun σZ HZ Q => σZ[i]? = some (some (.ref f)) ∧ (∀ cls d H', E cls d H' → W cls d σZ H') ∧ LamAt X.env ps body sc HZ f ∧ tb σ HZ Q) := by
  refine ⟨fun pz sz σz HZ Q IZ h => ?_⟩
  obtain ⟨slot, hW, ⟨c1, at_, code⟩, rd⟩ := h
  refine wpAny_Call_Name_kw (thn ((pe_var (pos := p1) (i := i) hN hv hd hcd).run pz sz σz HZ (fun v H1 => v = .ref f ∧ H1 = HZ) IZ ⟨.ref f, slot, rfl, rfl⟩) ?_)
  rintro u s1 ⟨v, H1, I1, r1, rfl, rfl⟩
  obtain rfl : u = Value.ref f := r1
  obtain ⟨pm, ctv, of⟩ : ∃ pm ctv, s1.heap.get? f = some (PySem.W.kla_obj "<lambda>" (X.env.qual ++ "<lambda>") ps body sc (cloFrom X.env.cells sc.names []) pm c1 ctv) := by
    have z : ObjOk X.prog X.w H1 s1.heap f (.ext fun h => ∃ pm ctv, h.get? f = some (PySem.W.kla_obj "<lambda>" (X.env.qual ++ "<lambda>") ps body sc (cloFrom X.env.cells sc.names []) pm c1 ctv)) := I1.hok f _ at_
    exact z.1
  obtain ⟨oc, vs, t, hoc, hdc, hvc⟩ : ∃ (oc : Obj) (vs : Array Value) (t : Tok), s1.heap.get? c1 = some oc ∧ oc.data = .fields vs ∧ vs[1]? = some (.str (X.env.qual ++ "<lambda>") t) := by
    have z : ObjOk X.prog X.w H1 s1.heap c1 (.ext fun h => ∃ (oc : Obj) (vs : Array Value) (t : Tok), h.get? c1 = some oc ∧ oc.data = .fields vs ∧ vs[1]? = some (.str (X.env.qual ++ "<lambda>") t)) := I1.hok c1 _ code
    exact z.1
  refine PySem.W.callWith_F0 ⟨_, _, _, _, of⟩ ?_
  have un : Un (frs X.stack) [] H H1 s.heap s1.heap := I1.base
  have runs : codeAny (model X.prog X.w) (X.A.deeper (envOfC qg sg s.heap.objs.size g cdg)) (.call (.ref f) ⟨[], []⟩)
      (CR (L2.CX X.prog X.w) (envOfC qg sg s.heap.objs.size g cdg :: X.stack) X.prog X.w H1 s1 Q E) s1 := by
    refine PySem.W.kla_callFunE hr.depth of rfl L.co L.gen rfl ⟨c1, oc, vs, t, rfl, hoc, hdc, hvc⟩ ?_
    rw [hbind]
    refine wpAny_pure ?_
    refine wpAny_newFunctionEnv (fun y hy => (L.own y hy).2) (fun y hy => absurd hy (by simp)) (fun h₁ hns hsb => ?_) L.kind
    refine ⟨I1.nolimit.fresh _ hsb, ?_⟩
    show codeAny _ _ (.expr body (lamEnv X sc s1.heap.objs.size f c1)) _ _
    have old : ∀ b o, s1.heap.get? b = some o → h₁.get? b = some o := fun b o e =>
      hsb.extBut b o (Nat.ne_of_lt (Heap.lt_size e)) (Heap.get?_push_of_some _ e)
    have J := lam_start2 (A := X.A.deeper (envOfC qg sg s.heap.objs.size g cdg)) (E := E) (f := f) (c' := c1) (tk := s1.toks + ([] : List (Str × Value)).length) I L I1.env0 hr.hd un hns old
    refine PySem.W.kla_codeExpr (wpAny_mono ((hbody _ _ s1 H1 c1 (hr.deeper _)).run [] _ _ H1 Q J rd) ?_ fun e s' z => z)
    rintro v s' ⟨w', H', J', rv, q⟩
    exact ⟨w', H', J'.os, J'.bare, J'.base, J'.hok, rv, q⟩
  refine wpAny_call (codeAny_mono runs fun r s' hq => ?_)
  cases r with
  | error e => exact tk e s' (XE.of_call I1 hW hq)
  | ok fl =>
    cases fl with
    | ret u => exact I1.after hq
    | _ => exact False.elim hq
end
/-- the def g calls what it is handed: what it makes of the reading of that call -/
def Gives (X : Cx) (Ng : List Str) (x : Str) (sg : Scope) (g : Addr) (cdg : Value) (bg : List Stmt) (a : Str) (TT : Addr → (XK → Hp → VK → Prop) → Hp → VK → Prop) : Prop :=
  ∀ (f : Addr) (s : Shared) (H : Hp) (Q : VK) (tl : XK → Hp → VK → Prop),
    (∀ (W : WX) (pn : List (Addr × Obj)) (xe : Value → Shared → Prop) (E : XK) (p1 p2 : Pos), Takes ((inDef X Ng x sg g cdg s H).tr pn xe) W →
      PE ((inDef X Ng x sg g cdg s H).tr pn xe) (.Call (.Name a p1) [] [] p2) (fun σZ HZ Q => σZ[0]? = some (some (.ref f)) ∧ (∀ cls d H', E cls d H' → W cls d σZ H') ∧ tl E HZ Q)) →
    TT f tl H Q → ∃ t, PSs (inDef X Ng x sg g cdg s H).nox bg t ∧ t { nx := fun _ H' => Q .non H', rt := Q } (L2.start Ng [.ref f]) H
/-- a text of a lambda -/
structure LamT where
  ps : Arguments
  body : Expr
  sc : Scope
def tGive {ι : Type} (env : Env) (l : ι → LamT) (t : ι → XK → TE) (TT : Addr → (XK → Hp → VK → Prop) → Hp → VK → Prop) (te : TE) : TE := fun σ H Q => te σ H fun v H1 => ∃ (i : ι) (f : Addr), v = .ref f ∧ TT f (fun E H' Q' => LamAt env (l i).ps (l i).body (l i).sc H' f ∧ t i E σ H' Q') H1 Q
section
variable {X : Cx} {ι : Type}
/-- x(e), e giving one of the lambdas l -/
theorem pe_give {l : ι → LamT} {TT : Addr → (XK → Hp → VK → Prop) → Hp → VK → Prop} {x a : Str} {g : Addr} {k : Nat} {pg : Arguments} {bg : List Stmt} {sg : Scope} {dV kV doc pm cdv ct oc : Value} {an od : Option Addr} {osl : Array (Option Value)} {Ng : List Str} {e : Expr} {te : TE}
    {t : ι → XK → TE} {p pos : Pos} (hm : X.mg x = some (.ref g)) (hk : PySem.W.keepIn X.K (.ref g) = true)
    (lk : X.K.lookup g = some ⟨oc, od, .func (PySem.W.fnOf x x pg bg sg dV kV doc pm an cdv ct), osl⟩) (hcg : PySem.W.codeIn X.K cdv x = true) (hb : L2.Binds X.K (PySem.W.fnOf x x pg bg sg dV kV doc pm an cdv ct) [a] []) (Sg : FnScope Ng [a] sg) (hNg : Ng[0]? = some a) (hva : Vis sg a)
    (hG : Gives X Ng x sg g cdv bg a TT) (hr : Room (k + 2) X.A) (L : ∀ i, LamS X.env.scope (l i).sc)
    (hbind : ∀ (i : ι) (cl : List (Str × Addr)) (pm cv ctv : Value), bindArgs (PySem.W.kla_fn "<lambda>" (X.env.qual ++ "<lambda>") (l i).ps (l i).body (l i).sc cl pm cv ctv) ⟨[], []⟩ = pure [])
    (he : PE X e te)
    (hbody : ∀ (i : ι) (A : Around) (outer : List Env) (s : Shared) (H : Hp) (E : XK) (f c' : Addr), Room k (A.deeper (lamEnv X (l i).sc s.heap.objs.size f c')) → PE (lamCx X A outer s H E (l i).sc f c') (l i).body (t i E))
    (hg : Gl X x := by rfl) (hst : starEach [e] X.env = (false, eval e X.env) :: starEach [] X.env := by rfl) (hpl : (backTo pos (starEach [] X.env)).any (·.1) = false := by rfl)
    (hdb : (x == ("__debug__" : Str)) = false := by decide) (hd : (a == ("__debug__" : Str)) = false := by decide) (hcd : (a == ("__classdict__" : Str)) = false := by decide) :
    PE X (.Call (.Name x p) [e] [] pos) (tGive X.env l t TT te) := by
  refine ⟨fun pins s σ H Q I h => ?_⟩
  refine wpAny_Call_Name_kw (ld_glob I hg hm ?_ hdb)
  have ha : PA X [e] (tCons te tNil) := pa_cons (hs := hst) he pa_nil
  refine PySem.W.callWith_K (h₀ := X.base) I.ok.mod.kin hk (thn (ha.run pos pins s σ H (fun vs H1 => ∃ v, vs = [v] ∧ ∃ (i : ι) (f : Addr), v = .ref f ∧ TT f (fun E H' Q' => LamAt X.env (l i).ps (l i).body (l i).sc H' f ∧ t i E σ H' Q') H1 Q) I ?_) ?_) hst hpl
  · show te σ H fun y H1 => ∃ v, [y] = [v] ∧ _
    have e1 : (fun (y : V) (H1 : Hp) => ∃ v, [y] = [v] ∧ ∃ (i : ι) (f : Addr), v = .ref f ∧ TT f (fun E H' Q' => LamAt X.env (l i).ps (l i).body (l i).sc H' f ∧ t i E σ H' Q') H1 Q) = fun (y : V) (H1 : Hp) => ∃ (i : ι) (f : Addr), y = .ref f ∧ TT f (fun E H' Q' => LamAt X.env (l i).ps (l i).body (l i).sc H' f ∧ t i E σ H' Q') H1 Q := by
      funext y H1
      refine propext ⟨fun ⟨v, z, r⟩ => ?_, fun r => ⟨y, rfl, r⟩⟩
      cases z
      exact r
    rw [e1]
    exact h
  · rintro us s1 ⟨vs, H1, I1, r, v, rfl, i, f, rfl, ht⟩
    refine ⟨I1.kIn, ?_⟩
    cases r with
    | cons r1 rr =>
      cases rr
      cases r1
      have runs : codeAny (model X.prog X.w) X.A (.call (.ref g) ⟨[.ref f], []⟩) (CR CX0 X.stack X.prog X.w H1 s1 Q E0) s1 := by
        refine run_ofS (N := Ng) (ps := [a]) (us := [.ref f]) (vs := [.ref f]) lk hcg Sg hr I1.env0 (hb s1 [.ref f] I1.kIn rfl) (.cons rfl .nil) rfl fun hr' => ?_
        obtain ⟨t', h1, h2⟩ := hG f s1 H1 Q (fun E H' Q' => LamAt X.env (l i).ps (l i).body (l i).sc H' f ∧ t i E σ H' Q')
          (fun W pn xe E p1 p2 tk => pe_actV (i := 0) I1 (L i) (hbind i) tk hr' (fun A outer s H c' hr2 => hbody i A outer s H E f c' hr2) hNg hva hd hcd) ht
        exact ⟨t', h1.nox, h2⟩
      refine wpAny_call (codeAny_mono runs fun r s2 hq => ?_)
      cases r with
      | error e => exact (show False from hq).elim
      | ok fl =>
        cases fl with
        | ret u => exact I1.after hq
        | _ => exact False.elim hq
end
end My

/-! own layer, 22: try .. except X as n, the error kept behind it -/
namespace My
open PySem PySem.Spec PyProof.Rows L2
/-- an error of the class cls, its dict d, that was caught, stands at a -/
def erk (a : Addr) (cls : Value) (d : Option Addr) : HO := .ext fun h => ∃ (oe : Obj) (vs : Array Value), h.get? a = some oe ∧ Zc cls d oe ∧ oe.data = .fields vs
theorem erk_ok {P : Program} {w : World} {H : Hp} {h : Heap} {a : Addr} {cls : Value} {d : Option Addr} {oe : Obj} {vs : Array Value} (e : h.get? a = some oe) (z : Zc cls d oe) (f : oe.data = .fields vs) : ObjOk P w H h a (erk a cls d) :=
  ⟨⟨oe, vs, e, z, f⟩, ⟨oe, e⟩, fun h1 h2 ⟨o, v, q, r⟩ k => ⟨o, v, k _ q, r⟩⟩
/-- what is wished of an error of the body: it is one of the class c, and is kept -/
def wKeep (K : PySem.W.Frag) (c : Value) (i : Nat) (ts : Addr → Value → Option Addr → TS) (D : Ends) : WX := fun cls d σ H => PySem.W.exmOne K cls c = some true ∧
  ∀ a, H a = none → ts a cls d { nx := fun σ' H' => H' a = none → D.nx (σ'.set i none) (upd H' a (erk a cls d)), rt := fun _ _ => False, bk := fun _ _ => False, ct := fun _ _ => False } (σ.set i (some (.ref a))) H
section
variable {X : Cx} {x n : Str} {c : Value} {i : Nat} {body suite : List Stmt} {b₀ : Stmt} {np pos pos' : Pos} {tb : WX → TS} {ts : Addr → Value → Option Addr → TS}
theorem ps_try_keep (hs : X.stack = X.env :: X.outer) (hf : X.env.frame = some X.env.locals) (hex : X.ex = []) (hN : X.N.Nodup) (hi : X.N[i]? = some n) (hln : X.env.kindOf n = some .local) (hc : Names X x c)
    (hb : ∀ (W : WX) (pn : List (Addr × Obj)) (xe : Value → Shared → Prop), Takes (X.tr pn xe) W → PassesOwn (model X.prog X.w) X.A X.env xe → PSs (X.tr pn xe) body (tb W))
    (hsu : ∀ (a : Addr) (oe : Obj) (cls : Value) (d : Option Addr) (pn : List (Addr × Obj)), Zc cls d oe → (∃ vs, oe.data = .fields vs) → PSs (X.suite a ((a, oe) :: pn)) (b₀ :: suite) (ts a cls d)) :
    PS X (.Try body [.ExceptHandler (some (.Name x np)) (some n) (b₀ :: suite) pos'] [] [] pos) (fun D σ H => tb (wKeep X.K c i ts D) D σ H) := by
  refine ⟨fun pins s σ H D I h => wpAny_Try_except ?_⟩
  have frames : X.A.frames = some (X.env :: X.outer) := by rw [I.ok.frames, hs]
  have hloc : Loc X.env.scope n := .inl hln
  have runs := fun tk => (hb (wKeep X.K c i ts D) (X.pn ++ pins)
    (fun e s₁ => wpAny (model X.prog X.w) X.A (noteFrame e X.env) (fun _ s₂ =>
      wpAny (model X.prog X.w) X.A (setFlight e none) (fun _ s₃ => wpAny (model X.prog X.w) X.A (handleBy e X.env [.ExceptHandler (some (.Name x np)) (some n) (b₀ :: suite) pos']) (SP X pins D) X.xe s₃) X.xe s₂) X.xe s₁)
    tk PassesOwn.looking).run [] s σ H D (I.toTry _) h
  refine wpAny_mono (runs ?_) (fun f s1 hsp => ?_) (fun _ _ z => z)
  · rintro u s' ⟨a, B, sI, pins', σ', H', cls, d, rfl, J', nb, up, sky, na, os, ag, isC, yes⟩
    have J := J'.ofTry I.ok
    rw [show (X.tr (X.pn ++ pins) _).stack = X.env :: X.outer from hs] at sky
    show wpAny (model X.prog X.w) X.A (noteFrame (.ref a) X.env) _ _ _
    refine Sky.land Zc.steady frames hf sky ?_
    intro h3 fly up3
    have J3 : L2.Inv X pins σ' H' { s' with heap := h3 } := J.landed nb fly.1 (up.trans up3) os ag
    obtain ⟨o3, v3, e3, z3, d3⟩ := fly.there
    have nfr : a ∉ frs (X.env :: X.outer) := fun hm => by
      obtain ⟨_, o', e', hnf⟩ := fly.2.2.1.mem hm
      rw [e3] at e'
      cases e'
      exact hnf _ d3
    have nL : a ≠ X.env.locals := fun z => nfr (List.mem_filterMap.mpr ⟨X.env, List.mem_cons_self, by rw [hf, z]⟩)
    have nF : a ∉ X.fs := fun hm => by
      obtain ⟨e, he, q⟩ := List.mem_filterMap.mp hm
      exact nfr (List.mem_filterMap.mpr ⟨e, List.mem_cons_of_mem _ he, q⟩)
    -- the error is newer than the frame
    have fresh : sI.heap.get? a = none := by
      cases e : sI.heap.get? a with
      | none => rfl
      | some o =>
        have z := nb a o e (by rw [show (X.tr (X.pn ++ pins) _).stack = X.env :: X.outer from hs]; exact nfr)
        rw [fly.2.1] at z
        cases z
    have fresh0 : X.s_0.heap.get? a = none := by
      cases e : X.s_0.heap.get? a with
      | none => rfl
      | some o =>
        obtain ⟨o', z⟩ := J.base.there a o e (by rw [hex]; exact fun z => nomatch z)
        rw [fresh] at z
        cases z
    have unpinned : ∀ p ∈ X.pn ++ pins, p.1 ≠ a := fun p hp z => by
      have q := (J.pin p hp).1
      rw [z, fresh] at q
      cases q
    have S3 := J3.suite e3 d3 na nL nF
    refine wpAny_handleBy_cons (codeAny_handlers_test ?_) (by intro q; cases q)
    have ofC : PySem.W.Looks (model X.prog X.w) h3 (typeOf (.ref a)) cls := fun A Q E s k q => wpAny_typeOf_ref (k _ _ e3) (by rw [z3.1]; exact q)
    have asks := PySem.W.exm_one (M := model X.prog X.w) J3.kIn ofC isC
    have named : ∀ {Q E : Value → Shared → Prop}, Q c { s' with heap := h3 } → wpAny (model X.prog X.w) (X.A.mark (some (.ref a))) (eval (.Name x np) X.env) Q E { s' with heap := h3 } := by
      intro Q E q
      obtain ⟨g1, g2, g3 | ⟨g3, g4, g5⟩⟩ := hc
      · exact ld_glob (X := X.suite a ((a, o3) :: (X.pn ++ pins))) S3 g1 g3 q g2
      · exact ld_blt (X := X.suite a ((a, o3) :: (X.pn ++ pins))) S3 g1 g3 g4 q g5 g2
    refine named (asks.here (codeAny_handlers_suite_as ?_))
    refine HandSPX.lands_againZ fly ?_
    intro h4 fly4 up4
    have J4 : L2.Inv X pins σ' H' { s' with heap := h4 } := J.landed nb fly4.1 ((up.trans up3).trans up4) os ag
    obtain ⟨o4, v4, e4, z4, d4⟩ := fly4.there
    refine store_ok (X := X.suite a ((a, o4) :: (X.pn ++ pins))) (v := .ref a) (J4.suite e4 d4 na nL nF) hN hi hloc rfl (fun s5 S5 => ?_) (.inr hln)
    refine wpAny_mono ((hsu a o4 cls d (X.pn ++ pins) z4 ⟨_, d4⟩).run [] s5 _ H' _ S5 (yes a na)) ?_ (fun _ _ z => False.elim z)
    intro f s6 hsp
    cases f with
    | next =>
      obtain ⟨σ6, H6, S6, q6⟩ := hsp
      have n6 := (S6.pin (a, o4) (by simp [Cx.suite])).2.1
      have P6 : L2.Inv X ((a, o4) :: pins) σ6 H6 s6 := ⟨I.ok, S6.os, S6.bare, S6.base, S6.loc, S6.cell, S6.free, S6.freeC, fun p hp => S6.pin p (by
        rcases List.mem_append.mp hp with z | z
        · exact List.mem_append_left _ (List.mem_cons_of_mem _ (List.mem_append_left _ z))
        · rcases List.mem_cons.mp z with z | z
          · exact List.mem_append_left _ (by rw [z]; exact List.mem_cons_self)
          · exact List.mem_append_left _ (List.mem_cons_of_mem _ (List.mem_append_right _ z))), S6.hok, S6.len⟩
      refine gone_ok P6 hN hi hln fun s7 P7 => ?_
      obtain ⟨e7, n7, _⟩ := P7.pin (a, o4) (List.mem_append_right _ List.mem_cons_self)
      have J7 : L2.Inv X pins (σ6.set i none) H6 s7 := ⟨P7.ok, P7.os, P7.bare, P7.base, P7.loc, P7.cell, P7.free, P7.freeC, fun p hp => P7.pin p (by
        rcases List.mem_append.mp hp with z | z
        · exact List.mem_append_left _ z
        · exact List.mem_append_right _ (List.mem_cons_of_mem _ z)), P7.hok, P7.len⟩
      exact ⟨_, _, Inv.track J7 n7 fresh0 nL (fun v ⟨o, q1, q2⟩ => by rw [e7] at q1; cases q1; rw [d4] at q2; cases q2) unpinned (erk_ok e7 z4 d4), q6 n6⟩
    | brk =>
      obtain ⟨_, _, _, q6⟩ := hsp
      exact q6.elim
    | cont =>
      obtain ⟨_, _, _, q6⟩ := hsp
      exact q6.elim
    | ret u =>
      obtain ⟨_, _, _, _, _, q6⟩ := hsp
      exact q6.elim
  · cases f with
    | next =>
      obtain ⟨σ1, H1, J1, q⟩ := hsp
      exact wpAny_execs_nil ⟨σ1, H1, J1.ofTry I.ok, q⟩
    | brk =>
      obtain ⟨σ1, H1, J1, q⟩ := hsp
      exact ⟨σ1, H1, J1.ofTry I.ok, q⟩
    | cont =>
      obtain ⟨σ1, H1, J1, q⟩ := hsp
      exact ⟨σ1, H1, J1.ofTry I.ok, q⟩
    | ret u =>
      obtain ⟨v, σ1, H1, J1, r, q⟩ := hsp
      exact ⟨v, σ1, H1, J1.ofTry I.ok, r, q⟩
end
end My

/-! own layer, 23: caught = back = None; try: back = look() / except X as error: caught = error; return (caught, back) -/
namespace My
open PySem PySem.Spec PyProof.Rows L2 LamX
def toldD (Q : VK) : Ends := { nx := fun σ H => tRet (tTup (tCons (tVar 1) (tCons (tVar 2) tNil))) { nx := fun _ H' => Q .non H', rt := Q } σ H, rt := Q }
abbrev toldS (f : Addr) : L2.St := [some (.ref f), some .non, some .non, none]
def ToldX (K : PySem.W.Frag) (M f : Addr) (Q : VK) : XK := fun cls d H' => wKeep K (.ref M) 3 (fun _ _ _ => tAsg (tVar 3) (gName 1)) (toldD Q) cls d (toldS f) H'
def ToldR (f : Addr) (Q : VK) : VK := fun v H1 => gName 2 v (toldS f) H1 (toldD Q).nx
def TTold (K : PySem.W.Frag) (M f : Addr) : (XK → Hp → VK → Prop) → Hp → VK → Prop := fun tl H Q => ∀ H1, Same H H1 → tl (ToldX K M f Q) H1 (ToldR f Q)
section
variable {K : PySem.W.Frag} {M f : Addr} {Q : VK} {H : Hp} {v : V} {cls : Value} {d : Option Addr}
theorem told_ret (h : ∀ t H2, Same H H2 → H t = none → H2 t = some (.tup [.non, v]) → Q (.ref t) H2) : ToldR f Q v H := by
  show tRet (tTup (tCons (tVar 1) (tCons (tVar 2) tNil))) { nx := fun _ H' => Q .non H', rt := Q } [some (.ref f), some .non, some v, none] H
  refine i_ret (i_tup (i_cons (i_var rfl (i_cons (i_var rfl (i_nil ?_))))))
  exact ⟨Nat.le_of_ble_eq_true rfl, i_new h⟩
theorem told_exc (hm : PySem.W.exmOne K cls (.ref M) = some true) (h : ∀ a H1 t H2, Same H H1 → H a = none → H1 a = some (erk a cls d) → Same H1 H2 → H1 t = none → H2 t = some (.tup [.ref a, .non]) → Q (.ref t) H2) : ToldX K M f Q cls d H := by
  refine ⟨hm, fun a ha => ?_⟩
  refine i_asg (i_var rfl (i_gname ?_))
  intro _
  show tRet (tTup (tCons (tVar 1) (tCons (tVar 2) tNil))) { nx := fun _ H' => Q .non H', rt := Q } [some (.ref f), some (.ref a), some .non, none] (upd H a (erk a cls d))
  refine i_ret (i_tup (i_cons (i_var rfl (i_cons (i_var rfl (i_nil ?_))))))
  refine ⟨Nat.le_of_ble_eq_true rfl, i_new fun t H2 S n e => ?_⟩
  exact h a (upd H a (erk a cls d)) t H2 (fun b o z => by rw [upd_ne (ne_of_none z ha)]; exact z) ha upd_same S n e
end
/-! ### the kept error, read -/
/-- a kept error of the class at C that holds v -/
def KeptAt (H : Hp) (C a : Addr) (v : V) : Prop := ∃ d, H a = some (erk a (.ref C) (some d)) ∧ H d = some (.xd [("value", v)])
theorem KeptAt.same {H H' : Hp} {C a : Addr} {v : V} (h : KeptAt H C a v) (S : Same H H') : KeptAt H' C a v := by
  obtain ⟨d, h1, h2⟩ := h
  exact ⟨d, S _ _ h1, S _ _ h2⟩
theorem kept_inst {X : Cx} {pins : List (Addr × Obj)} {σ : L2.St} {H : Hp} {s : Shared} {C a : Addr} {v : V} (I : L2.Inv X pins σ H s) (h : KeptAt H C a v) : ∃ ox od u, PySem.W.InstAt s.heap a ox C (some od) ∧ PySem.W.lookIn "value" od = some (some u) ∧ RelV v u := by
  obtain ⟨d, h1, h2⟩ := h
  obtain ⟨oe, vs, e, z, f⟩ : ∃ (oe : Obj) (vs : Array Value), s.heap.get? a = some oe ∧ Zc (.ref C) (some d) oe ∧ oe.data = .fields vs := by
    have z : ObjOk X.prog X.w H s.heap a (.ext fun h => ∃ (oe : Obj) (vs : Array Value), h.get? a = some oe ∧ Zc (.ref C) (some d) oe ∧ oe.data = .fields vs) := I.hok a _ h1
    exact z.1
  obtain ⟨mA, hns, rel⟩ := I.hok d _ h2
  obtain ⟨od, hd, hl⟩ := lookIn_ns hns
  obtain ⟨u, hu, ru⟩ := RelO.some_of (v := v) (o := mA "value") (rel "value")
  exact ⟨oe, od, u, ⟨e, z.1, by unfold PySem.W.notCls; rw [f] <;> rfl, by rw [z.2]; exact hd⟩, by rw [hl, hu], ru⟩
def KeptVQ (K : PySem.W.Frag) (x : V) (H : Hp) (Q : VK) : Prop := ∃ (a C : Addr) (v : V), x = .ref a ∧ KeptAt H C a v ∧ EOk K C ∧ Q v H
def tKeptV (K : PySem.W.Frag) (te : TE) : TE := fun σ H Q => te σ H fun x H1 => KeptVQ K x H1 Q
theorem pe_kept {X : Cx} {e : Expr} {te : TE} {pos : Pos} (he : PE X e te) (hb : attributeBase e "value" X.env (eval e X.env) = eval e X.env := by rfl) : PE X (.Attribute e "value" pos) (tKeptV X.K te) := by
  refine ⟨fun pins s σ H Q I h => attr_of hb (thn (he.run pins s σ H _ I h) ?_)⟩
  rintro u s1 ⟨x, H1, I1, rx, a, C, v, ex, hk, T, q⟩
  subst ex
  obtain rfl : u = Value.ref a := rx
  obtain ⟨ox, od, u, J, hu, ru⟩ := kept_inst I1 hk
  exact HandSPX.exc_get I1.kIn J T.x.ga T.x.gg T.x.exC (PySem.W.findObj_own T.x.hdC T.no rfl hu) (handed_of ru) ⟨v, H1, I1.tok _, ru, q⟩
def rIsK (K : PySem.W.Frag) : List V → Hp → VK → Prop := fun xs H Q => ∃ (a C : Addr) (v c : V) (cv : Value) (b : Bool), xs = [.ref a, c] ∧ KeptAt H C a v ∧ EOk K C ∧ (∀ u, RelV c u → u = cv) ∧ PySem.W.kitOne K (.ref C) cv = some b ∧ Q (.bl b) H
theorem call_isK {X : Cx} : CallR X (.builtin "isinstance") (rIsK X.K) := by
  rintro pins s σ H xs us Q I r ⟨a, C, v, c, cv, b, rfl, hk, T, hcv, e, q⟩
  obtain ⟨ox, od, u, J, _⟩ := kept_inst I hk
  cases r with
  | cons rx rr =>
    cases rr with
    | cons rt rr =>
      cases rr
      cases rx
      have ec := hcv _ rt
      subst ec
      exact PySem.W.kia_one (er_kit T.e) I.kIn J e (fun z => nomatch z) fun tk => ⟨.bl b, H, I.kept (t' := tk) fun _ _ z => z, rfl, q⟩
section
variable {K : PySem.W.Frag} {σ : L2.St} {H : Hp} {te : TE} {Q : VK} {C a D : Addr} {v : V} {b : Bool}
theorem i_kept0 (h : te σ H fun x H1 => KeptVQ K x H1 Q) : tKeptV K te σ H Q := h
theorem i_kept (h : KeptAt H C a v) (T : EOk K C) (q : Q v H) : KeptVQ K (.ref a) H Q := ⟨a, C, v, rfl, h, T, q⟩
theorem i_isK (h : KeptAt H C a v) (T : EOk K C) (e : PySem.W.kitOne K (.ref C) (.ref D) = some b) (q : Q (.bl b) H) : rIsK K [.ref a, .ref D] H Q :=
  ⟨a, C, v, .ref D, .ref D, b, rfl, h, T, fun _ z => z, e, q⟩
/-- an own class of errors in an except clause -/
theorem exm_er (T : EOk K C) (h : PySem.W.subIn K (.ref a) (.ref C) = some b) : PySem.W.exmOne K (.ref a) (.ref C) = some b := PySem.W.exm_ref T.o.exC T.x.hdC T.o.tyC h
end
end My

/-! own layer, 24: values that are no ratios, and what raises for them -/
namespace My
open PySem PySem.Spec PyProof.Rows L2 LamX
theorem _root_.L2.FnOk.or {P : Program} {w : World} {K : PySem.W.Frag} {mg : Str → Option Value} {base : Heap} {CX : CXT} {k : Nat} {f : Addr} {fd : FuncData} {ps : List Str} {sp sq : Sp} (F : FnOk P w K mg base CX k f fd ps sp) (G : FnOk P w K mg base CX k f fd ps sq) :
    FnOk P w K mg base CX k f fd ps (fun vs H Q E => sp vs H Q E ∨ sq vs H Q E) :=
  ⟨fun vs H Q E h => h.elim (F.len vs H Q E) (G.len vs H Q E), fun A outer s H args us vs Q E hr e0 hb r h => h.elim (F.run A outer s H args us vs Q E hr e0 hb r) (G.run A outer s H args us vs Q E hr e0 hb r)⟩
/-- of which built-in kind a value is -/
inductive Kd (H : Hp) : V → String → Prop
  | non : Kd H .non "NoneType"
  | bl (b : Bool) : Kd H (.bl b) "bool"
  | int (i : Int) : Kd H (.int i) "int"
  | str (x : Str) : Kd H (.str x) "str"
  | lst {a : Addr} {xs : List V} : H a = some (.lst xs) → Kd H (.ref a) "list"
  | tup {a : Addr} {xs : List V} : H a = some (.tup xs) → Kd H (.ref a) "tuple"
  | dic {a : Addr} {ks : List (Key × V)} : H a = some (.dK ks) → Kd H (.ref a) "dict"
section
variable {K : PySem.W.Frag} {H H' : Hp} {v : V} {n : String} {Q : VK} {b : Bool}
theorem Kd.imp (h : Kd H v n) (S : ∀ a o, v = .ref a → H a = some o → H' a = some o) : Kd H' v n := by
  cases h with
  | non => exact .non
  | bl b => exact .bl b
  | int i => exact .int i
  | str x => exact .str x
  | lst e => exact .lst (S _ _ rfl e)
  | tup e => exact .tup (S _ _ rfl e)
  | dic e => exact .dic (S _ _ rfl e)
theorem Kd.same (h : Kd H v n) (S : Same H H') : Kd H' v n := h.imp fun a o _ e => S a o e
theorem Kd.tyx (h : Kd H v n) : TyX K H v (.type n) := by
  cases h with
  | non => exact .base .non
  | bl b => exact .base (.bl b)
  | int i => exact .base (.int i)
  | str x => exact .base (.str x)
  | lst e => exact .base (.lst e)
  | tup e => exact .base (.tup e)
  | dic e => exact .base (.dK e)
theorem i_isKd {m : String} (h : Kd H v n) (e : kitB n m = some b) (q : Q (.bl b) H) : rIsi K [v, .ty m] H Q := ⟨v, .ty m, _, _, b, rfl, .ty m, h.tyx, kit_ty e, q⟩
theorem i_isKo {C : Addr} (h : Kd H v n) (e : PySem.W.kitOne K (.type n) (.ref C) = some b) (q : Q (.bl b) H) : rIsi K [v, .ref C] H Q := ⟨v, .ref C, _, _, b, rfl, .own C, h.tyx, e, q⟩
end
/-- a value that is no ratio -/
inductive Odd (H : Hp) : V → Prop
  | kd {v : V} {n : String} : Kd H v n → n ≠ "tuple" → Odd H v
  | len {a : Addr} {xs : List V} : H a = some (.tup xs) → xs.length ≠ 2 → Odd H (.ref a)
  | fst {a : Addr} {x y : V} {n : String} : H a = some (.tup [x, y]) → Kd H x n → n ≠ "int" → Odd H (.ref a)
  | snd {a : Addr} {i : Int} {y : V} {n : String} : H a = some (.tup [.int i, y]) → Kd H y n → n ≠ "int" → Odd H (.ref a)
  | num {a : Addr} {i j : Int} : H a = some (.tup [.int i, .int j]) → ¬ (0 ≤ i ∧ 1 ≤ j ∧ Nat.gcd i.natAbs j.natAbs = 1) → Odd H (.ref a)
theorem Odd.same {H H' : Hp} {v : V} (h : Odd H v) (S : Same H H') : Odd H' v := by
  cases h with
  | kd k n => exact .kd (k.same S) n
  | len e n => exact .len (S _ _ e) n
  | fst e k n => exact .fst (S _ _ e) (k.same S) n
  | snd e k n => exact .snd (S _ _ e) (k.same S) n
  | num e n => exact .num (S _ _ e) n
/-! ### what is promised -/
def spIsIntK : Sp := fun vs H Q _ => ∃ (v : V) (n : String), vs = [v] ∧ Kd H v n ∧ Q (.bl (decide (n = "int"))) H
def spNotRatio : Sp := fun vs H Q _ => ∃ v, vs = [v] ∧ Odd H v ∧ Q (.bl false) H
/-- BadRatio of v is raised from H -/
def Rz (R : Addr) (H : Hp) (v : V) (E : XK) : Prop := ∀ (d : Addr) (H' : Hp), H d = none → Same H H' → H' d = some (.xd [("value", v)]) → E (.ref R) (some d) H'
theorem Rz.same {R : Addr} {H H' : Hp} {v : V} {E : XK} (h : Rz R H v E) (S : Same H H') : Rz R H' v E := fun d H2 n S2 e => h d H2 (S.free n) (S.trans S2) e
def spWeakX (R : Addr) : Sp := fun vs H _ E => ∃ u v : V, vs = [u, v] ∧ Odd H v ∧ Rz R H v E
def spInitX (K : PySem.W.Frag) (R : Addr) : Sp := fun vs H _ E => ∃ (s : Addr) (va vb w : V), vs = [.ref s, va, vb] ∧ ((w = va ∧ Odd H va) ∨ (w = vb ∧ Odd H vb ∧ ∃ (a : Addr) (p : Rat), va = .ref a ∧ SqT K H a (rat p) ∧ 0 ≤ p)) ∧ Rz R H w E
def spAtX (K : PySem.W.Frag) (C R : Addr) : Sp := fun vs H _ E => ∃ (s dx a b : Addr) (v : V), vs = [.ref s, v] ∧ H s = some (.ins C dx (srcF a b)) ∧ Odd H v ∧ Rz R H v E
section
variable {X : Cx} {CX : CXT} {k : Nat} {x m qual : Str} {st : Stmt} {ps : List Str} {sp : Sp} {p pos apos : Pos} {e o : Expr} {es : List Expr} {t : TA} {ta : TE} {C : Addr} {E : XK}
theorem pe_mkX {K : PySem.W.Frag} (hK : X.K = K) (g : GMk K X.mg x) {fm : GMe K (He.ga K x) "__init__" qual st ps} (F : FnAt X.prog X.w K X.mg X.base CX k (He.ma K (He.ga K x) "__init__") ps sp) (hr : Room (k + 1) X.A) (hx : Passes CX X E) (ha : PA X (e :: es) t) (hg : Gl X x := by rfl)
    (hdb : (x == ("__debug__" : Str)) = false := by decide) (he : starEach (e :: es) X.env = (false, eval e X.env) :: starEach es X.env := by rfl) (hpl : (backTo pos (starEach es X.env)).any (·.1) = false := by rfl) :
    PE X (.Call (.Name x p) (e :: es) [] pos) (tMake (He.ga K x) sp [] E t) := by
  subst hK
  exact pe_make g.k F hr hg g.m fm.b .nil hx ha hdb he hpl
theorem pe_meX {K : PySem.W.Frag} (hK : X.K = K) {pl : Sem Bool} (c : Cls K C) (g : GMe K C m qual st ps) (F : FnAt X.prog X.w K X.mg X.base CX k (He.ma K C m) ps sp) (hr : Room k X.A) (hx : Passes CX X E) (ho : PE X o ta) (ha : PA X (e :: es) t)
    (hst : starEach (e :: es) X.env = (false, eval e X.env) :: starEach es X.env := by rfl) (hpl : (backTo pos (starEach es X.env)).any (·.1) = false := by rfl)
    (ht : eval (.Call (.Attribute o m apos) (e :: es) [] pos) X.env = (do
      let ov ← eval o X.env
      standAt apos.atName
      let (f, first) ← holding [ov] (getMethod ov m pl)
      callWith pos f first (backTo pos (starEach (e :: es) X.env)) (backToKw pos (keywordEach [] X.env))) := by rfl) :
    PE X (.Call (.Attribute o m apos) (e :: es) [] pos) (tMeth C m sp [] E ta t) := by
  subst hK
  exact pe_meth ho c g.h F hr g.b .nil hx ha hst hpl ht
/-- x == y of an own instance and a value of a built-in kind -/
def rOwnT (K : PySem.W.Frag) (C : Addr) (sp : Sp) : R2 := fun x y H Q => ∃ (a dx : Addr) (fs : List (Str × V)) (n : String), x = .ref a ∧ H a = some (.ins C dx fs) ∧ Kd H y n ∧ PySem.W.notFirst K C (.type n) = true ∧ sp [x, y] H Q E0
theorem cm_ownT {op : CmpOp} (g : GOp X.K C m qual st) (hm : (PySem.cmpInfo op).2.1 = m) (hop : ∀ v u, compareOp op v u = richCompare op v u) (F : FnAt X.prog X.w X.K X.mg X.base CX k (He.ma X.K C m) ["self", "other"] sp) (hr : Room k X.A)
    (hx : Passes CX X E0 := by first | exact pass0 | exact passL) : OpR X (compareOp op) (rOwnT X.K C sp) := by
  rintro pins s σ H x y v u Q I rx ry ⟨a, dx, fs, n, rfl, ha, hk, hn, hsp⟩
  cases rx
  obtain ⟨mA, J, _⟩ := ins_get I.hok ha
  obtain ⟨od, J, _⟩ := J.look
  obtain ⟨P, kit, hp, _⟩ := kit_of I ry (hk.tyx (K := X.K))
  obtain ⟨mm, hF⟩ := I.fr
  subst hm
  rw [hop]
  refine PySem.W.cmp_K (tb := .type n) hr.units0 hF I.ok.mod.kin J (kit.ty _ _ I.kIn hp) hn g.at_ g.fn ?_
  exact thn (run_fn (vs := [.ref a, y]) F hr g.b .nil hx I (.cons rfl (.cons ry .nil)) hsp) fun r s' q => back_of q
end
/-- == of a source and what is no source -/
def spEqNo (K : PySem.W.Frag) (C : Addr) : Sp := fun vs H Q _ => ∃ (s : Addr) (y : V) (n : String), vs = [.ref s, y] ∧ Kd H y n ∧ PySem.W.kitOne K (.type n) (.ref C) = some false ∧ Q (.bl false) H
end My

/-! own layer: what the laws draw of benches -/
namespace My
open PySem PySem.Spec PyProof.Rows L2 TL
def pool : List Str := ["a", "low", "high", "meter", "range", "load", "up", "down", "unit", "spread", "zzzzzzzz", "fine", "x"]
theorem pool_ok : ∀ n ∈ pool, NmOk n := fun n hn => nmB_ok (List.all_eq_true.mp (show pool.all nmB = true by decide +kernel) n hn)
theorem pool_nd : pool.Nodup := by decide +kernel
/-! ### lores in the heap -/
def MetAt (K : PySem.W.Frag) (F : Addr → Prop) (H : Hp) (v : V) (m : Str × List Row) : Prop := ∃ a b xs, v = .ref a ∧ F b ∧ SqT K H a [.str m.1, .ref b] ∧ H b = some (.lst xs) ∧ DpAll K H xs (m.2.map rowD)
def loreKv (s : Nat) (ms ls : Addr) : List (Key × V) := [(.inr ("spread" : Str), .int s), (.inr ("meters" : Str), .ref ms), (.inr ("loads" : Str), .ref ls)]
def LoreAt (K : PySem.W.Frag) (F : Addr → Prop) (H : Hp) (d : Addr) (L : Lore) : Prop := ∃ ms ls xs ys, F d ∧ F ms ∧ F ls ∧ H d = some (.dK (loreKv L.spread ms ls)) ∧ H ms = some (.lst xs) ∧ Paired (MetAt K F H) xs L.meters ∧ H ls = some (.lst ys) ∧ DpAll K H ys (L.loads.map loadD)
theorem lore_s (s : Nat) (ms ls : Addr) : valV (loreKv s ms ls) (.inr ("spread" : Str)) = some (.int s) := valV_pos rfl
theorem lore_m (s : Nat) (ms ls : Addr) : valV (loreKv s ms ls) (.inr ("meters" : Str)) = some (.ref ms) := by
  unfold loreKv
  rw [valV_neg (fun z => absurd (Sum.inr.inj z) (by decide +kernel)), valV_pos rfl]
theorem lore_l (s : Nat) (ms ls : Addr) : valV (loreKv s ms ls) (.inr ("loads" : Str)) = some (.ref ls) := by
  unfold loreKv
  rw [valV_neg (fun z => absurd (Sum.inr.inj z) (by decide +kernel)), valV_neg (fun z => absurd (Sum.inr.inj z) (by decide +kernel)), valV_pos rfl]
theorem noL_load (l : Str × Rat) : noL (loadD l) = true := rfl
section
variable {K : PySem.W.Frag} {F G : Addr → Prop} {H H' : Hp} {d p : Addr} {L : Lore} {v : V} {m : Str × List Row} {l : List V}
theorem MetAt.same (h : MetAt K F H v m) (S : Same H H') : MetAt K F H' v m := by
  obtain ⟨a, b, xs, e, f, h1, h2, h3⟩ := h
  exact ⟨a, b, xs, e, f, S.seqT h1, S _ _ h2, h3.same S⟩
theorem MetAt.imp (h : MetAt K F H v m) (f : ∀ a, F a → G a) : MetAt K G H v m := by
  obtain ⟨a, b, xs, e, q, h1, h2, h3⟩ := h
  exact ⟨a, b, xs, e, f b q, h1, h2, h3⟩
theorem MetAt.but {o : HO} (h : MetAt K F H v m) (hp : H p = some o) (hF : ¬ F p) (B : But p H H') (pl : Plain o := by exact trivial) : MetAt K F H' v m := by
  obtain ⟨a, b, xs, e, f, h1, h2, h3⟩ := h
  exact ⟨a, b, xs, e, f, seqT_butP hp pl B h1, B _ _ (fun z => hF (z ▸ f)) h2, dpAll_butN hp pl B (noL_map noL_row _) h3⟩
theorem LoreAt.same (h : LoreAt K F H d L) (S : Same H H') : LoreAt K F H' d L := by
  obtain ⟨ms, ls, xs, ys, f1, f2, f3, h1, h2, h3, h4, h5⟩ := h
  exact ⟨ms, ls, xs, ys, f1, f2, f3, S _ _ h1, S _ _ h2, Paired.mapP h3 fun _ _ q => q.same S, S _ _ h4, h5.same S⟩
theorem LoreAt.imp (h : LoreAt K F H d L) (f : ∀ a, F a → G a) : LoreAt K G H d L := by
  obtain ⟨ms, ls, xs, ys, f1, f2, f3, h1, h2, h3, h4, h5⟩ := h
  exact ⟨ms, ls, xs, ys, f _ f1, f _ f2, f _ f3, h1, h2, Paired.mapP h3 fun _ _ q => q.imp f, h4, h5⟩
theorem LoreAt.but {o : HO} (h : LoreAt K F H d L) (hp : H p = some o) (hF : ¬ F p) (B : But p H H') (pl : Plain o := by exact trivial) : LoreAt K F H' d L := by
  obtain ⟨ms, ls, xs, ys, f1, f2, f3, h1, h2, h3, h4, h5⟩ := h
  exact ⟨ms, ls, xs, ys, f1, f2, f3, B _ _ (fun z => hF (z ▸ f1)) h1, B _ _ (fun z => hF (z ▸ f2)) h2, Paired.mapP h3 fun _ _ q => q.but hp hF B pl, B _ _ (fun z => hF (z ▸ f3)) h4, dpAll_butN hp pl B (noL_map noL_load _) h5⟩
theorem Pot.some {n : Int} (hP : Pot H p n) : ∃ l, H p = some (.lst l) := by
  obtain ⟨a, b, c, hp, _⟩ := hP
  exact ⟨_, hp⟩
theorem Pot.freshF {n : Int} (hP : Pot H p n) : ¬ (H p = none) := by
  obtain ⟨l, e⟩ := hP.some
  rw [e]
  exact fun z => by cases z
end
section
variable {K : PySem.W.Frag} {F G : Addr → Prop} {H H' : Hp} {d p : Addr}
theorem Pot.butne {n : Int} (hP : Pot H p n) (B : But d H H') (h : p ≠ d) : Pot H' p n := by
  obtain ⟨a, b, c, hp, r⟩ := hP
  exact ⟨a, b, c, B _ _ h hp, r⟩
section
variable {Q : VK} {xs : List V}
theorem i_listOf {a : Addr} (hl : SqL K H a xs) (h : ∀ q H1, Same H H1 → H q = none → H1 q = some (.lst xs) → Q (.ref q) H1) : rListOf K [.ref a] H Q := ⟨a, xs, rfl, .inl hl, i_new h⟩
theorem i_popAt {a : Addr} {j : Nat} {y : V} (ha : H a = some (.lst xs)) (hz : xs.length ≤ 1000) (hy : xs[j]? = some y) (h : ∀ H1, But a H H1 → H1 a = some (.lst (xs.eraseIdx j)) → Q y H1) : rPopAt (.ref a) [.int j] H Q := by
  have hj := (List.getElem?_eq_some_iff.mp hy).1
  have e : ixN xs.length (j : Int) = some j := by
    unfold ixN
    rw [if_pos (by omega), if_pos (by omega)]
    simp
  exact ⟨a, xs, j, j, y, rfl, rfl, ha, by omega, by omega, (ixN_seq e).1, hy, h _ But.upd upd_same⟩
end
end
theorem map_erase {α β : Type} (f : α → β) : ∀ (l : List α) (j : Nat), (l.map f).eraseIdx j = (l.eraseIdx j).map f
  | [], _ => rfl
  | _ :: _, 0 => rfl
  | a :: l, j + 1 => by
    show f a :: (l.map f).eraseIdx j = f a :: (l.eraseIdx j).map f
    rw [map_erase f l j]
theorem nodup_one {α : Type} (a : α) : [a].Nodup := List.nodup_cons.mpr ⟨(by intro h; cases h), List.Pairwise.nil⟩
theorem not_mem_erase {α : Type} {l : List α} (h : l.Nodup) {j : Nat} (hj : j < l.length) : l[j] ∉ l.eraseIdx j := by
  intro z
  obtain ⟨i2, h2, e3, e2⟩ := List.mem_eraseIdx_iff_getElem.mp z
  exact e3 ((List.getElem_inj h).mp e2)
/-! ### what is drawn -/
theorem ratOk_div {a b : Int} (ha : 0 ≤ a) (h1 : a ≤ 9999) (hb : 0 < b) (h2 : b ≤ 9999) : RatOk ((a : Rat) / (b : Rat)) := by
  obtain ⟨e1, e2⟩ := rat_ndI a b hb
  have g0 : (0 : Int) ≤ ((Nat.gcd a.natAbs b.natAbs : Nat) : Int) := Int.natCast_nonneg _
  refine ⟨?_, ?_, ?_⟩
  · rw [← Rat.num_nonneg, e1]
    exact Int.ediv_nonneg ha g0
  · rw [e1]
    exact Int.le_trans (Int.ediv_le_self _ ha) h1
  · have := Int.ediv_le_self ((Nat.gcd a.natAbs b.natAbs : Nat) : Int) (a := b) (by omega)
    omega
theorem div_lt_div {a b c d : Int} (hb : 0 < b) (hd : 0 < d) (h : a * d < c * b) : (a : Rat) / (b : Rat) < (c : Rat) / (d : Rat) := by
  have hb' : (0 : Rat) < (b : Rat) := by exact_mod_cast hb
  have hd' : (0 : Rat) < (d : Rat) := by exact_mod_cast hd
  rw [Rat.div_lt_iff hb']
  have e : (c : Rat) / (d : Rat) * (b : Rat) = (c : Rat) * (b : Rat) / (d : Rat) := by
    rw [Rat.div_def, Rat.div_def]
    grind
  rw [e, Rat.lt_div_iff hd']
  exact_mod_cast h
theorem lt_of_div {a b c d : Int} (hb : 0 < b) (hd : 0 < d) (h : (a : Rat) / (b : Rat) < (c : Rat) / (d : Rat)) : a * d < c * b := by
  have hb' : (0 : Rat) < (b : Rat) := by exact_mod_cast hb
  have hd' : (0 : Rat) < (d : Rat) := by exact_mod_cast hd
  rw [Rat.div_lt_iff hb'] at h
  have e : (c : Rat) / (d : Rat) * (b : Rat) = (c : Rat) * (b : Rat) / (d : Rat) := by
    rw [Rat.div_def, Rat.div_def]
    grind
  rw [e, Rat.lt_div_iff hd'] at h
  exact_mod_cast h
theorem div_le_div {a b c d : Int} (hb : 0 < b) (hd : 0 < d) (h : a * d ≤ c * b) : (a : Rat) / (b : Rat) ≤ (c : Rat) / (d : Rat) := by
  refine Rat.not_lt.mp fun z => ?_
  have := lt_of_div hd hb z
  omega
theorem dpAll_set {K : PySem.W.Frag} {H : Hp} {v : V} {d : PyData} : ∀ {vs : List V} {ds : List PyData} (i : Nat), DpAll K H vs ds → Dp K H v d → DpAll K H (vs.set i v) (ds.set i d) := by
  intro vs ds i h hd
  induction ds generalizing vs i with
  | nil => cases h; exact .nil
  | cons e es ih =>
    cases h with
    | cons h1 h2 =>
      cases i with
      | zero => exact .cons hd h2
      | succ j => exact .cons h1 (ih j h2)
theorem mem_set {α : Type} {l : List α} {i : Nat} {a x : α} (h : x ∈ l.set i a) : x ∈ l ∨ x = a := List.mem_or_eq_of_mem_set h
/-! ### tests of any answer -/
def AnyT (tt : TT) (σ : L2.St) (H : Hp) : Prop := ∀ QB : Bool → Hp → Prop, (∀ b, QB b H) → tt σ H QB
section
variable {tt tu : TT} {t u : TS} {σ : L2.St} {H : Hp} {D : Ends} {Q : VK}
theorem anyT_or (h1 : AnyT tt σ H) (h2 : AnyT tu σ H) : AnyT (tOr tt tu) σ H := fun QB q => i_or (h1 _ fun b => by
  cases b with
  | true => exact q true
  | false => exact h2 QB q)
theorem anyT_and (h1 : AnyT tt σ H) (h2 : AnyT tu σ H) : AnyT (tAnd tt tu) σ H := fun QB q => i_and (h1 _ fun b => by
  cases b with
  | true => exact h2 QB q
  | false => exact q false)
theorem anyT_not (h1 : AnyT tt σ H) : AnyT (tNot tt) σ H := fun QB q => i_not (h1 _ fun b => q _)
theorem i_ifA (h : AnyT tt σ H) (h1 : t D σ H) (h2 : u D σ H) : tIfS tt t u D σ H := i_if (h _ fun b => by
  cases b with
  | true => exact h1
  | false => exact h2)
theorem i_cats {a b : Str} (hz : a.length + b.length ≤ sizeLine) (q : Q (.str (a ++ b)) H) : ∃ i j, V.str a = .str i ∧ V.str b = .str j ∧ i.length + j.length ≤ sizeLine ∧ Q (.str (i ++ j)) H := ⟨a, b, rfl, rfl, hz, q⟩
end
/-! ### rows drawn one by one -/
def RowsP : List Row → List Row → Prop
  | _, [] => True
  | ahead, r :: rs => RowOk r ahead ∧ r.U ≠ none ∧ RowsP (ahead ++ [r]) rs
theorem RowsP.snoc {r : Row} : ∀ {rows ahead : List Row}, RowsP ahead rows → RowOk r (ahead ++ rows) → r.U ≠ none → RowsP ahead (rows ++ [r])
  | [], ahead, _, h, u => ⟨by rw [List.append_nil] at h; exact h, u, trivial⟩
  | a :: as, ahead, ⟨h1, h2, h3⟩, h, u => ⟨h1, h2, RowsP.snoc h3 (by rw [List.append_assoc]; exact h) u⟩
theorem RowsP.done {r : Row} : ∀ {rows ahead : List Row}, RowsP ahead rows → RowOk r (ahead ++ rows) → r.U = none → RowsOk ahead (rows ++ [r])
  | [], ahead, _, h, u => ⟨by rw [List.append_nil] at h; exact h, fun z => absurd rfl z, fun _ => u, trivial⟩
  | a :: as, ahead, ⟨h1, h2, h3⟩, h, u => ⟨h1, fun _ => h2, fun z => absurd z (by simp), RowsP.done h3 (by rw [List.append_assoc]; exact h) u⟩
/-- a size of units -/
def SizeV (K : PySem.W.Frag) (H : Hp) (v : V) : Prop := ∃ q, Dp K H v (ratD q) ∧ RatOk q ∧ 0 < q
theorem sizeV {K : PySem.W.Frag} {H : Hp} {a : Addr} {n d : Nat} (h : SqT K H a [.int (n : Int), .int (d : Int)]) (hn : 0 < n) (hn2 : n ≤ 9999) (hd : 0 < d) (hd2 : d ≤ 9999) (hg : Nat.gcd n d = 1) : SizeV K H (.ref a) := by
  obtain ⟨e1, e2⟩ := rat_ndI (n : Int) (d : Int) (by omega)
  rw [Int.natAbs_natCast, Int.natAbs_natCast, hg] at e1 e2
  have e1 : (((n : Int) : Rat) / ((d : Int) : Rat)).num = n := by simpa using e1
  have e2 : ((((n : Int) : Rat) / ((d : Int) : Rat)).den : Int) = d := by simpa using e2
  refine ⟨((n : Int) : Rat) / ((d : Int) : Rat), dp_rat ?_, ratOk_div (by omega) (by omega) (by omega) (by omega), num_pos (by rw [e1]; omega)⟩
  unfold rat
  rw [e1, e2]
  exact h
/-- what the drawing of rows goes on with -/
def Bn (K : PySem.W.Frag) (lq ln fd : Addr) (xs : List V) (qs : List Rat) (ns : List Str) (acc : List V) (rows : List Row) (H : Hp) : Prop :=
  H ln = some (.lst (ns.map V.str)) ∧ H lq = some (.lst xs) ∧ DpAll K H xs (qs.map ratD) ∧ H fd = some (.lst acc) ∧ DpAll K H acc (rows.map rowD)
section
variable {K : PySem.W.Frag} {lq ln fd p : Addr} {xs acc : List V} {qs : List Rat} {ns : List Str} {rows : List Row} {H H' : Hp} {l : List V}
theorem Bn.same (h : Bn K lq ln fd xs qs ns acc rows H) (S : Same H H') : Bn K lq ln fd xs qs ns acc rows H' := ⟨S _ _ h.1, S _ _ h.2.1, h.2.2.1.same S, S _ _ h.2.2.2.1, h.2.2.2.2.same S⟩
theorem Bn.but (h : Bn K lq ln fd xs qs ns acc rows H) (hp : H p = some (.lst l)) (n1 : p ≠ lq) (n2 : p ≠ ln) (n3 : p ≠ fd) (B : But p H H') : Bn K lq ln fd xs qs ns acc rows H' :=
  ⟨B _ _ n2.symm h.1, B _ _ n1.symm h.2.1, dpAll_butN hp trivial B (noL_map noL_rat _) h.2.2.1, B _ _ n3.symm h.2.2.2.1, dpAll_butN hp trivial B (noL_map noL_row _) h.2.2.2.2⟩
theorem Bn.app {r : Row} {v : V} (h : Bn K lq ln fd xs qs ns acc rows H) (n1 : fd ≠ lq) (n2 : fd ≠ ln) (B : But fd H H') (e : H' fd = some (.lst (acc ++ [v]))) (d : Dp K H v (rowD r)) : Bn K lq ln fd xs qs ns (acc ++ [v]) (rows ++ [r]) H' :=
  ⟨B _ _ n2.symm h.1, B _ _ n1.symm h.2.1, dpAll_butN h.2.2.2.1 trivial B (noL_map noL_rat _) h.2.2.1, e, by rw [List.map_append]; exact dpAll_snoc (dpAll_butN h.2.2.2.1 trivial B (noL_map noL_row _) h.2.2.2.2) (dp_butN h.2.2.2.1 trivial B (noL_row _) d)⟩
end
theorem paired_snoc {α β : Type} {R : α → β → Prop} {xs : List α} {ys : List β} {x : α} {y : β} (h : Paired R xs ys) (r : R x y) : Paired R (xs ++ [x]) (ys ++ [y]) := by
  induction h with
  | nil => exact .cons r .nil
  | cons q _ ih => exact .cons q ih
def MtF (H : Hp) (A : Addr) (a : Addr) : Prop := H a = none ∧ a ≠ A
/-- the meters of a bench that is drawn, as far as they stand -/
def Mts (K : PySem.W.Frag) (F : Addr → Prop) (H : Hp) (acc : List V) (nm : List Str) (ns : List Nat) : Prop := ∃ ms : List (Str × List Row), Paired (MetAt K F H) acc ms ∧ ms.map (·.1) = nm ∧ ms.map (·.2.length) = ns ∧ ∀ m ∈ ms, RowsOk [] m.2
section
variable {K : PySem.W.Frag} {F : Addr → Prop} {H H' : Hp} {acc l : List V} {nm : List Str} {ns : List Nat} {p : Addr}
theorem Mts.same (h : Mts K F H acc nm ns) (S : Same H H') : Mts K F H' acc nm ns := by
  obtain ⟨ms, a, b⟩ := h
  exact ⟨ms, Paired.mapP a fun _ _ q => q.same S, b⟩
theorem Mts.but {o : HO} (h : Mts K F H acc nm ns) (hp : H p = some o) (hF : ¬ F p) (B : But p H H') (pl : Plain o := by exact trivial) : Mts K F H' acc nm ns := by
  obtain ⟨ms, a, b⟩ := h
  exact ⟨ms, Paired.mapP a fun _ _ q => q.but hp hF B pl, b⟩
theorem Mts.now (h : Mts K F H acc nm ns) : Mts K (fun a => F a ∧ H a ≠ none) H acc nm ns := by
  obtain ⟨ms, a, b⟩ := h
  refine ⟨ms, Paired.mapP a fun _ _ q => ?_, b⟩
  obtain ⟨a, b, xs, e, f, h1, h2, h3⟩ := q
  exact ⟨a, b, xs, e, ⟨f, by rw [h2]; exact fun z => by cases z⟩, h1, h2, h3⟩
theorem Mts.len (h : Mts K F H acc nm ns) : acc.length = nm.length := by
  obtain ⟨ms, a, b, _⟩ := h
  rw [Paired.length a, ← b, List.length_map]
theorem Mts.snoc {v : V} {m : Str × List Row} (h : Mts K F H acc nm ns) (hv : MetAt K F H v m) (ok : RowsOk [] m.2) : Mts K F H (acc ++ [v]) (nm ++ [m.1]) (ns ++ [m.2.length]) := by
  obtain ⟨ms, a, b, c, d⟩ := h
  refine ⟨ms ++ [m], paired_snoc a hv, by rw [List.map_append, b]; rfl, by rw [List.map_append, c]; rfl, fun x hx => ?_⟩
  rcases List.mem_append.mp hx with hx | hx
  · exact d x hx
  · rw [List.mem_singleton.mp hx]; exact ok
end
/-! ### a dict that is written out -/
section
variable {trs : List (TE × TE)} {tk tv : TE} {σ : L2.St} {H : Hp} {Q : VK} {QA : List (V × V) → Hp → Prop} {d : Addr}
def DispE (d : Addr) (Q : VK) (ps : List (V × V)) (H2 : Hp) : Prop := H2 d = some (.dK []) ∧ ∃ kvs : List (Key × V), ps = kvs.map (fun kv => (kV kv.1, kv.2)) ∧ kvs.length ≤ 15 ∧ Q (.ref d) (upd H2 d (.dK (mergeK [] kvs)))
theorem i_disp (h : ∀ d H1, Same H H1 → H d = none → H1 d = some (.dK []) → tPairs trs σ H1 (DispE d Q)) : tDisp trs σ H Q := fun d hd => h d _ (fun b u e => by rw [upd_ne (ne_of_none e hd)]; exact e) hd upd_same
theorem i_pairs (h : tk σ H fun x H1 => tv σ H1 fun y H2 => tPairs trs σ H2 fun ps H3 => QA ((x, y) :: ps) H3) : tPairs ((tk, tv) :: trs) σ H QA := h
theorem i_pairs0 (h : QA [] H) : tPairs [] σ H QA := h
theorem i_dispE {ps : List (V × V)} (kvs : List (Key × V)) (e : ps = kvs.map (fun kv => (kV kv.1, kv.2))) (h0 : H d = some (.dK [])) (h15 : kvs.length ≤ 15) (hm : mergeK [] kvs = kvs) (h : ∀ H3, But d H H3 → H3 d = some (.dK kvs) → Q (.ref d) H3) : DispE d Q ps H :=
  ⟨h0, kvs, e, h15, by rw [hm]; exact h _ But.upd upd_same⟩
end
theorem merge_lore (s : Nat) (a b : Addr) : mergeK [] (loreKv s a b) = loreKv s a b := by
  show putK (putK (putK ([] : List (Key × V)) (.inr ("spread" : Str)) (.int s)) (.inr ("meters" : Str)) (.ref a)) (.inr ("loads" : Str)) (.ref b) = _
  rw [putK_new _ (show valV ([] : List (Key × V)) _ = none from rfl), putK_new (kvs := [] ++ _) _ (by
    rw [List.nil_append, valV_neg (fun z => absurd (Sum.inr.inj z) (by decide +kernel))]; rfl), putK_new _ (by
    rw [List.nil_append, List.singleton_append, valV_neg (fun z => absurd (Sum.inr.inj z) (by decide +kernel)), valV_neg (fun z => absurd (Sum.inr.inj z) (by decide +kernel))]; rfl)]
  rfl
/-! ### a row, told -/
def optTx (w : Str) : Option Rat → Str
  | none => ""
  | some q => w ++ rT q
def rowHead (r : Row) : Str := ("  range " : Str) ++ r.n ++ (" load " : Str) ++ rT r.G ++ (" unit " : Str) ++ rT r.S
theorem rowLine_told (r : Row) : rowLine r = rowHead r ++ optTx (" down " : Str) r.D ++ optTx (" up " : Str) r.U := ext_tl (by
  have e1 : tl ("  range " : Str) = tl " " ++ (tl " " ++ (tl "range" ++ tl " ")) := rfl
  have e2 : tl (" load " : Str) = tl " " ++ (tl "load" ++ tl " ") := rfl
  have e3 : tl (" unit " : Str) = tl " " ++ (tl "unit" ++ tl " ") := rfl
  have e4 : tl (" down " : Str) = tl " " ++ (tl "down" ++ tl " ") := rfl
  have e5 : tl (" up " : Str) = tl " " ++ (tl "up" ++ tl " ") := rfl
  have e0 : tl ("" : Str) = [] := rfl
  unfold rowLine rowHead
  rw [join_eq, tl_join]
  unfold rowWords
  cases r.D <;> cases r.U <;> simp only [optW, optTx, joinL, tl_append, e1, e2, e3, e4, e5, e0, List.map_cons, List.map_nil, List.cons_append, List.nil_append, List.append_nil, List.append_assoc])
/-- a shape: how many ranges each meter has, and how many loads -/
def ShV (H0 H : Hp) (v : V) : Prop := ∃ (t s : Addr) (ns : List Nat) (l : Nat), v = .ref t ∧ H0 s = none ∧ H t = some (.tup [.ref s, .int l]) ∧ H s = some (.lst (ns.map fun k : Nat => V.int k)) ∧ 1 ≤ ns.length ∧ ns.length ≤ 3 ∧ (∀ k ∈ ns, 1 ≤ k ∧ k ≤ 4) ∧ l ≤ 2
theorem shV {H0 H : Hp} {t s : Addr} {xs : List V} {x : V} (ns : List Nat) (l : Nat) (ht : H t = some (.tup [.ref s, x])) (hs : H s = some (.lst xs)) (h0 : H0 s = none) (ex : x = .int l) (e : xs = ns.map fun k : Nat => V.int k) (hb : (decide (1 ≤ ns.length) && decide (ns.length ≤ 3) && ns.all (fun k => decide (1 ≤ k) && decide (k ≤ 4)) && decide (l ≤ 2)) = true) : ShV H0 H (.ref t) := by
  simp only [Bool.and_eq_true, decide_eq_true_eq, List.all_eq_true] at hb
  subst ex e
  exact ⟨t, s, ns, l, rfl, h0, ht, hs, hb.1.1.1, hb.1.1.2, hb.1.2, hb.2⟩
theorem shV_all {H0 H : Hp} {v : V} {vs : List V} (h : ShV H0 H v) (hs : ∀ x ∈ vs, ShV H0 H x) : ∀ x ∈ v :: vs, ShV H0 H x := fun x hx => by
  rcases List.mem_cons.mp hx with rfl | hx
  · exact h
  · exact hs x hx
/-! ### repr of data and of truth -/
def bS (b : Bool) : Str := if b then "True" else "False"
theorem bS_inj {a b : Bool} : decide (bS a = bS b) = decide (a = b) := by cases a <;> cases b <;> decide
def rReprA (K : PySem.W.Frag) : List V → Hp → VK → Prop := fun xs H Q => rReprD K xs H Q ∨ ∃ b, xs = [.bl b] ∧ Q (.str (bS b)) H
theorem cr_reprA {X : Cx} {k : Nat} (hgd : X.A.guards = some []) (hr : Room k X.A) : CallR X (.builtin "repr") (rReprA X.K) := by
  intro pins s σ H xs us Q I r h
  rcases h with h | ⟨b, rfl, q⟩
  · exact cr_reprD hgd hr pins s σ H xs us Q I r h
  · cases r with
    | cons r1 rr =>
      cases rr
      cases r1
      exact PySem.P.repr_of_bool ⟨.str (bS b), H, I.tok _, ⟨_, rfl⟩, q⟩
theorem cr_reprAK {X : Cx} {K : PySem.W.Frag} {k : Nat} (hK : X.K = K) (hgd : X.A.guards = some []) (hr : Room k X.A) : CallR X (.builtin "repr") (rReprA K) := by
  subst hK
  exact cr_reprA hgd hr
theorem i_reprA {K : PySem.W.Frag} {H : Hp} {Q : VK} {a : Addr} {d : PyData} (hd : Dp K H (.ref a) d) (h1 : d.showable = true) (h2 : d.hasDict = false) (h3 : d.depth < 100) (h4 : d.shown.length ≤ sizeLine) (q : Q (.str d.shown) H) : rReprA K [.ref a] H Q := .inl ⟨a, d, rfl, hd, h1, h2, h3, h4, q⟩
theorem i_reprAB {K : PySem.W.Frag} {H : Hp} {Q : VK} {b : Bool} (q : Q (.str (bS b)) H) : rReprA K [.bl b] H Q := .inr ⟨b, rfl, q⟩
theorem i_extL {H : Hp} {Q : VK} {xs ys : List V} {l b : Addr} (h1 : H l = some (.lst xs)) (h2 : H b = some (.lst ys)) (z : xs.length + ys.length ≤ sizeLine) (h : ∀ H1, But l H H1 → H1 l = some (.lst (xs ++ ys)) → Q .non H1) : rExtend (.ref l) [.ref b] H Q :=
  ⟨l, b, xs, ys, rfl, rfl, h1, h2, z, h _ But.upd upd_same⟩
/-! ### lines, told -/
theorem meterLine_told (n : Str) : ("meter " : Str) ++ n = meterLine n := ext_tl (by
  have e1 : tl ("meter " : Str) = tl "meter" ++ tl " " := rfl
  unfold meterLine
  rw [join_eq, tl_append, tl_join, e1]
  simp only [joinL, List.map_cons, List.map_nil, List.append_assoc])
theorem loadLine_told (l : Str × Rat) : ("load " : Str) ++ l.1 ++ (" " : Str) ++ rT l.2 = loadLine l := ext_tl (by
  have e1 : tl ("load " : Str) = tl "load" ++ tl " " := rfl
  unfold loadLine
  rw [join_eq, tl_append, tl_append, tl_append, tl_join, e1]
  simp only [joinL, List.map_cons, List.map_nil, List.append_assoc])
/-! ### built-in kinds -/
theorem kinds7_ok {K : PySem.W.Frag} {C : Addr} (h : kinds7.all (fun n => PySem.W.notFirst K C (.type n) && decide (PySem.W.kitOne K (.type n) (.ref C) = some false)) = true) : ∀ n ∈ kinds7, PySem.W.notFirst K C (.type n) = true ∧ PySem.W.kitOne K (.type n) (.ref C) = some false := fun n hn => by
  have := List.all_eq_true.mp h n hn
  simp only [Bool.and_eq_true, decide_eq_true_eq] at this
  exact this
theorem Kd.in7 {H : Hp} {v : V} {n : String} (h : Kd H v n) : n ∈ kinds7 := by
  unfold kinds7
  cases h <;> simp
theorem i_mkB {K : PySem.W.Frag} {C : Addr} {H : Hp} {Q : VK} {E : XK} {L : Lore} (ok : LoreOk L) (k : ∀ b H2, Same H H2 → H b = none → BenAt K C H2 b L → Q (.ref b) H2) : MakeQ C (spBenInit K C) [] E [.str (textOf L)] H Q := by
  intro x dx hx hd ne
  refine ⟨x, dx, L, rfl, upd_same, ok, fun H' B hb => ⟨rfl, k x H' (fun c o e => ?_) hx hb⟩⟩
  have n1 := ne_of_none e hx
  have n2 := ne_of_none e hd
  exact B _ _ n1 (by rw [upd_ne n1, upd_ne n2]; exact e)
/-! ### data that is written out: how long -/
structure Sho (k b : Nat) (d : PyData) : Prop where
  s : d.showable = true
  h : d.hasDict = false
  dp : d.depth ≤ k
  l : d.leavesShort 300 = true
  bk : d.bulk ≤ b
theorem Sho.mono {k k' b b' : Nat} {d : PyData} (h : Sho k b d) (hk : k ≤ k') (hb : b ≤ b') : Sho k' b' d := ⟨h.s, h.h, Nat.le_trans h.dp hk, h.l, Nat.le_trans h.bk hb⟩
theorem sho_int {i : Int} (h : i.natAbs < 2 ^ 200) : Sho 0 0 (.int i) := by
  have hl : i.natAbs.log2 < 1920 := Nat.lt_of_lt_of_le (log_lt (k := 200) (by decide) h) (by decide)
  refine ⟨?_, rfl, Nat.le_refl _, ?_, Nat.le_refl _⟩
  · unfold PyData.showable; exact decide_eq_true hl
  · unfold PyData.leavesShort
    refine decide_eq_true ?_
    have e : (PyData.int i).shown = Str.ofString i.repr := by simp [PyData.shown]
    rw [e, PySem.ofString_length]
    have := int_repr_le (k := 200) (by decide) h
    omega
theorem sho_non : Sho 0 0 .none := ⟨rfl, rfl, Nat.le_refl _, rfl, Nat.le_refl _⟩
theorem sho_str {x : Str} {b : Nat} (h : ∀ c ∈ tl x, c < 256) (hl : x.length ≤ b) : Sho 0 b (.str x) := by
  refine ⟨rfl, rfl, Nat.le_refl _, ?_, hl⟩
  unfold PyData.leavesShort
  exact List.all_eq_true.mpr fun c hc => decide_eq_true (Nat.lt_of_lt_of_le (h c hc) (by decide))
theorem sho_all {k b : Nat} : ∀ {ds : List PyData}, (∀ d ∈ ds, Sho k b d) → PyData.showableAll ds = true ∧ PyData.hasDictAll ds = false ∧ PyData.depthAll ds ≤ k ∧ PyData.leavesShortAll 300 ds = true ∧ PyData.bulkAll ds ≤ (b + 1) * ds.length
  | [], _ => ⟨rfl, rfl, Nat.zero_le _, rfl, Nat.zero_le _⟩
  | d :: ds, h => by
    obtain ⟨h1, h2, h3, h4, h5⟩ := sho_all (ds := ds) fun x hx => h x (List.mem_cons_of_mem _ hx)
    have hd := h d List.mem_cons_self
    refine ⟨?_, ?_, ?_, ?_, ?_⟩
    · unfold PyData.showableAll; rw [hd.s, h1]; rfl
    · unfold PyData.hasDictAll; rw [hd.h, h2]; rfl
    · unfold PyData.depthAll; exact Nat.max_le.mpr ⟨hd.dp, h3⟩
    · unfold PyData.leavesShortAll; rw [hd.l, h4]; rfl
    · unfold PyData.bulkAll
      have := hd.bk
      rw [List.length_cons, Nat.mul_add]
      omega
theorem sho_tup {k b : Nat} {ds : List PyData} (h : ∀ d ∈ ds, Sho k b d) : Sho (k + 1) ((b + 1) * ds.length) (.tuple ds) := by
  obtain ⟨h1, h2, h3, h4, h5⟩ := sho_all h
  refine ⟨?_, ?_, ?_, ?_, ?_⟩
  · unfold PyData.showable; exact h1
  · unfold PyData.hasDict; exact h2
  · unfold PyData.depth; omega
  · unfold PyData.leavesShort; exact h4
  · unfold PyData.bulk; exact h5
theorem i_reprS {K : PySem.W.Frag} {H : Hp} {Q : VK} {a : Addr} {d : PyData} {k b : Nat} (hd : Dp K H (.ref a) d) (h : Sho k b d) (hk : k < 100) (hb : b ≤ 50000) (q : Q (.str d.shown) H) : rReprA K [.ref a] H Q :=
  i_reprA hd h.s h.h (Nat.lt_of_le_of_lt h.dp hk) (by
    have h1 := PyData.shown_le_bulk 300 (by decide) d h.l
    have h2 := h.bk
    have e : sizeLine = 16777216 := rfl
    rw [e]
    omega) q
theorem sho_rat {q : Rat} {j : Nat} (h : Sz j q) (hj : j ≤ 200) : Sho 1 2 (ratD q) := by
  have h := h.mono hj
  have := sho_tup (k := 0) (b := 0) (ds := [.int q.num, .int (q.den : Int)]) fun d hd => by
    simp only [List.mem_cons, List.not_mem_nil, or_false] at hd
    rcases hd with rfl | rfl
    · exact sho_int h.1
    · exact sho_int h.den
  exact this.mono (by decide) (Nat.le_refl _)
theorem sho_opt {o : Option Rat} {j : Nat} (h : ∀ q, o = some q → Sz j q) (hj : j ≤ 200) : Sho 1 2 (optD o) := by
  cases o with
  | none => exact sho_non.mono (by decide) (by decide)
  | some q => exact sho_rat (h q rfl) hj
theorem lt_name {n : Str} (h : NmOk n) : ∀ c ∈ tl n, c < 256 := fun c hc => by have := h.az c hc; omega
theorem sho_name {n : Str} (h : NmOk n) : Sho 0 8 (.str n) := sho_str (lt_name h) h.hi
theorem sho_names {ns : List Str} (h : ∀ n ∈ ns, NmOk n) : Sho 1 (9 * ns.length) (namesD ns) := by
  have := sho_tup (k := 0) (b := 8) (ds := ns.map .str) fun d hd => by
    obtain ⟨n, hn, rfl⟩ := List.mem_map.mp hd
    exact sho_name (h n hn)
  rw [List.length_map] at this
  exact this
theorem RatOk.lowSz {q : Rat} (h : RatOk q) {s : Nat} (hs : s ≤ 20) : Sz 80 (lowQ s q) := (h.sz.mono (by decide : 20 ≤ 40)).mul (sz_divI (by omega) (by omega) (by omega))
theorem sho_row {r : Row} {ah : List Row} (h : RowOk r ah) {s : Nat} (hs : s ≤ 20) : Sho 2 45 (rowD (lowR s r)) := by
  have dD : ∀ q, r.D = some q → RatOk q := fun q e => by
    by_cases h2 : ah = []
    · rw [h.d.1 h2] at e; cases e
    · obtain ⟨q2, e2, o2⟩ := h.d.2 h2
      rw [e] at e2; cases e2; exact o2
  have := sho_tup (k := 1) (b := 8) (ds := [.str r.n, ratD r.G, ratD r.S, optD (r.D.map (lowQ s)), optD r.U]) fun d hd => by
    simp only [List.mem_cons, List.not_mem_nil, or_false] at hd
    rcases hd with rfl | rfl | rfl | rfl | rfl
    · exact (sho_name h.nm).mono (by decide) (by decide)
    · exact (sho_rat h.g.sz (by decide)).mono (by decide) (by decide)
    · exact (sho_rat h.s.sz (by decide)).mono (by decide) (by decide)
    · refine (sho_opt (j := 80) (fun q e => ?_) (by decide)).mono (by decide) (by decide)
      obtain ⟨q0, e0, rfl⟩ := Option.map_eq_some_iff.mp e
      exact (dD q0 e0).lowSz hs
    · exact (sho_opt (j := 20) (fun q e => (h.u q e).1.sz) (by decide)).mono (by decide) (by decide)
  exact this.mono (by decide) (Nat.le_refl _)
theorem sho_rows {rows : List Row} (h : RowsOk [] rows) (h4 : rows.length ≤ 4) {s : Nat} (hs : s ≤ 20) : Sho 3 200 (.tuple (rows.map fun r => rowD (lowR s r))) := by
  have := sho_tup (k := 2) (b := 45) (ds := rows.map fun r => rowD (lowR s r)) fun d hd => by
    obtain ⟨r, hr, rfl⟩ := List.mem_map.mp hd
    obtain ⟨ah, ok⟩ := h.mem hr
    exact sho_row ok hs
  rw [List.length_map] at this
  exact this.mono (by decide) (by omega)
/-! signs -/
theorem lt_rT (q : Rat) : ∀ c ∈ tl (rT q), c < 256 := fun c hc => by
  by_cases h : c < 47 ∨ 57 < c
  · exact absurd hc (rT_free h)
  · omega
theorem lt_nS (n : Nat) : ∀ c ∈ tl (nS n), c < 256 := fun c hc => by
  by_cases h : c < 48 ∨ 57 < c
  · exact absurd hc (nS_free h)
  · omega
theorem lt_joinL {S : List Nat} (hS : ∀ c ∈ S, c < 256) : ∀ {ps : List (List Nat)}, (∀ p ∈ ps, ∀ c ∈ p, c < 256) → ∀ c ∈ joinL S ps, c < 256
  | [], _, c, hc => by cases hc
  | [p], h, c, hc => h p List.mem_cons_self c hc
  | p :: q :: r, h, c, hc => by
    rcases List.mem_append.mp hc with hc | hc
    · exact h p List.mem_cons_self c hc
    · rcases List.mem_append.mp hc with hc | hc
      · exact hS c hc
      · exact lt_joinL hS (fun x hx => h x (List.mem_cons_of_mem _ hx)) c hc
theorem lt_join {y : Str} {ws : List Str} (hy : ∀ c ∈ tl y, c < 256) (h : ∀ w ∈ ws, ∀ c ∈ tl w, c < 256) : ∀ c ∈ tl (Txt.join y ws), c < 256 := by
  rw [join_eq, tl_join]
  refine lt_joinL hy fun p hp => ?_
  obtain ⟨w, hw, rfl⟩ := List.mem_map.mp hp
  exact h w hw
theorem lt_lit {x : Str} (h : (tl x).all (fun c => decide (c < 256)) = true) : ∀ c ∈ tl x, c < 256 := fun c hc => of_decide_eq_true (List.all_eq_true.mp h c hc)
theorem lt_optW {w : Str} {o : Option Rat} (hw : ∀ c ∈ tl w, c < 256) : ∀ x ∈ optW w o, ∀ c ∈ tl x, c < 256 := by
  intro x hx
  cases o with
  | none => cases hx
  | some q =>
    rcases List.mem_cons.mp hx with rfl | hx
    · exact hw
    · rw [List.mem_singleton.mp hx]; exact lt_rT q
theorem LoreOk.lt {L : Lore} (ok : LoreOk L) : ∀ c ∈ tl (textOf L), c < 256 := by
  have sp := lt_lit (x := " ") (by decide +kernel)
  refine lt_join (lt_lit (by decide +kernel)) fun w hw => ?_
  rcases lines_mem hw with ⟨rfl, _⟩ | ⟨m, hm, rfl⟩ | ⟨m, hm, r, hr, rfl⟩ | ⟨l, hl, rfl⟩
  · refine lt_join sp fun w hw => ?_
    simp only [List.mem_cons, List.not_mem_nil, or_false] at hw
    rcases hw with rfl | rfl
    · exact lt_lit (by decide +kernel)
    · exact lt_nS _
  · refine lt_join sp fun w hw => ?_
    simp only [List.mem_cons, List.not_mem_nil, or_false] at hw
    rcases hw with rfl | rfl
    · exact lt_lit (by decide +kernel)
    · exact lt_name (ok.mn m hm)
  · obtain ⟨ah, rok⟩ := ok.row hm hr
    refine lt_join sp fun w hw => ?_
    unfold rowWords at hw
    simp only [List.mem_append, List.mem_cons, List.not_mem_nil, or_false] at hw
    rcases hw with (rfl | rfl | rfl | rfl | rfl | rfl | rfl | rfl) | hw | hw
    · exact lt_lit (by decide +kernel)
    · exact lt_lit (by decide +kernel)
    · exact lt_lit (by decide +kernel)
    · exact lt_name rok.nm
    · exact lt_lit (by decide +kernel)
    · exact lt_rT _
    · exact lt_lit (by decide +kernel)
    · exact lt_rT _
    · exact lt_optW (lt_lit (by decide +kernel)) _ hw
    · exact lt_optW (lt_lit (by decide +kernel)) _ hw
  · refine lt_join sp fun w hw => ?_
    simp only [List.mem_cons, List.not_mem_nil, or_false] at hw
    rcases hw with rfl | rfl | rfl
    · exact lt_lit (by decide +kernel)
    · exact lt_name (ok.ln l hl).1
    · exact lt_rT _
/-- what a bench tells of itself -/
def tellD (L : Lore) : PyData := .tuple [.str (textOf L), namesD (L.meters.map (·.1)), namesD (L.loads.map (·.1)), .int L.spread, .int L.meters.length]
theorem LoreOk.names {L : Lore} (ok : LoreOk L) : ∀ n ∈ L.meters.map (·.1), NmOk n := fun n hn => by
  obtain ⟨m, hm, rfl⟩ := List.mem_map.mp hn
  exact ok.mn m hm
theorem LoreOk.lnames {L : Lore} (ok : LoreOk L) : ∀ n ∈ L.loads.map (·.1), NmOk n := fun n hn => by
  obtain ⟨m, hm, rfl⟩ := List.mem_map.mp hn
  exact (ok.ln m hm).1
theorem sho_told {L : Lore} (ok : LoreOk L) : Sho 2 12000 (tellD L) := by
  have h3 := ok.m3
  have h2 := ok.l2
  have hs := ok.spread
  have := sho_tup (k := 1) (b := 2300) (ds := [.str (textOf L), namesD (L.meters.map (·.1)), namesD (L.loads.map (·.1)), .int L.spread, .int L.meters.length]) fun d hd => by
    simp only [List.mem_cons, List.not_mem_nil, or_false] at hd
    rcases hd with rfl | rfl | rfl | rfl | rfl
    · exact (sho_str ok.lt (Nat.le_trans ok.text_le (by decide))).mono (by decide) (Nat.le_refl _)
    · exact (sho_names ok.names).mono (by decide) (by rw [List.length_map]; omega)
    · exact (sho_names ok.lnames).mono (by decide) (by rw [List.length_map]; omega)
    · exact (sho_int (by omega)).mono (by decide) (by decide)
    · exact (sho_int (by omega)).mono (by decide) (by decide)
  exact this.mono (by decide) (by simp only [List.length_cons, List.length_nil]; omega)
/-! ### a bench is asked -/
section
variable {K : PySem.W.Frag} {C b c : Addr} {H : Hp} {Q : VK} {L M : Lore} {sp : Sp} {E : XK} {dvs : List V}
theorem BenAt.ins (h : BenAt K C H b L) : ∃ dx fs, H b = some (.ins C dx fs) := by
  obtain ⟨dx, rd, ld, st, kvs, lks, h1, _⟩ := h
  exact ⟨dx, _, h1⟩
theorem i_bProp (h : BenAt K C H b L) (q : sp (.ref b :: dvs) H Q E) : PropQ C sp dvs E (.ref b) H Q := by
  obtain ⟨dx, fs, e⟩ := h.ins
  exact ⟨b, dx, fs, rfl, e, q⟩
theorem benF_load {t : Str} {n : Nat} {rd ld : Addr} {st : V} : (benF t n rd ld st).lookup ("load" : Str) = none := by
  unfold benF
  with_unfolding_all rfl
theorem i_bLoad {t : TA} {σ : L2.St} (h : BenAt K C H b L) (q : t σ H fun vs H2 => sp (.ref b :: (vs ++ dvs)) H2 Q E) : MethQ C ("load" : Str) sp dvs E t σ (.ref b) H Q := by
  obtain ⟨dx, rd, ld, st, kvs, lks, h1, _⟩ := h
  exact ⟨b, dx, _, rfl, h1, benF_load, q⟩
theorem i_bText (h : BenAt K C H b L) (q : Q (.str (textOf L)) H) : PropQ C (spBText K C) [] E (.ref b) H Q := i_bProp h ⟨b, L, rfl, h, q⟩
theorem i_bSpread (h : BenAt K C H b L) (q : Q (.int L.spread) H) : PropQ C (spBSpread K C) [] E (.ref b) H Q := i_bProp h ⟨b, L, rfl, h, q⟩
theorem i_bNames {f : Lore → List Str} (h : BenAt K C H b L) (hf : (f L).length ≤ 100) (q : ∀ p H', Same H H' → H p = none → H' p = some (.tup ((f L).map V.str)) → Q (.ref p) H') : PropQ C (spBNames K C f) [] E (.ref b) H Q := i_bProp h ⟨b, L, rfl, h, hf, q⟩
theorem i_bLen (h : BenAt K C H b L) (hl : L.meters.length ≤ 100) (q : Q (.int L.meters.length) H) : rLenOwn C (spBLen K C) [.ref b] H Q := by
  obtain ⟨dx, fs, e⟩ := h.ins
  exact ⟨b, dx, fs, rfl, e, b, L, rfl, h, _, rfl, by omega, by omega, q⟩
theorem i_bInS {n : Str} (h : BenAt K C H b L) (q : Q (.bl (decide (n ∈ L.meters.map (·.1)))) H) : rInOwn C (spBIn K C) (.str n) (.ref b) H Q := by
  obtain ⟨dx, fs, e⟩ := h.ins
  exact ⟨b, dx, fs, rfl, e, b, L, _, rfl, h, .inl ⟨n, rfl, _, rfl, q⟩⟩
theorem i_bInX {x : V} {n : String} (h : BenAt K C H b L) (ty : TyX K H x (.type n)) (hn : kitB n "str" = some false) (q : Q (.bl false) H) : rInOwn C (spBIn K C) x (.ref b) H Q := by
  obtain ⟨dx, fs, e⟩ := h.ins
  exact ⟨b, dx, fs, rfl, e, b, L, _, rfl, h, .inr ⟨n, ty, hn, _, rfl, q⟩⟩
theorem i_bItem {n : Str} {rows : List Row} (h : BenAt K C H b L) (nd : (L.meters.map (·.1)).Nodup) (hm : (n, rows) ∈ L.meters) (q : ∀ a, Dp K H (.ref a) (.tuple (rows.map fun r => rowD (lowR L.spread r))) → Q (.ref a) H) : rGetOwn C (spBItem K C) E (.ref b) (.str n) H Q := by
  obtain ⟨dx, fs, e⟩ := h.ins
  exact ⟨b, dx, fs, rfl, e, b, L, n, rows, rfl, h, nd, hm, q⟩
theorem i_bEq (h : BenAt K C H b L) (h2 : BenAt K C H c M) (q : Q (.bl (decide (textOf L = textOf M))) H) : rOwn C (spBEq K C) (.ref b) (.ref c) H Q := by
  obtain ⟨dx, fs, e⟩ := h.ins
  obtain ⟨dy, gs, e2⟩ := h2.ins
  exact ⟨b, c, dx, dy, fs, gs, rfl, rfl, e, e2, b, L, _, rfl, h, .inl ⟨c, M, rfl, h2, q⟩⟩
theorem i_bNe (h : BenAt K C H b L) (h2 : BenAt K C H c M) (q : Q (.bl (!decide (textOf L = textOf M))) H) : rOwnN C (spBEq K C) (.ref b) (.ref c) H Q := by
  obtain ⟨dx, fs, e⟩ := h.ins
  obtain ⟨dy, gs, e2⟩ := h2.ins
  exact ⟨b, c, dx, dy, fs, gs, rfl, rfl, e, e2, b, L, _, rfl, h, .inl ⟨c, M, rfl, h2, _, rfl, q⟩⟩
theorem i_bEqX {x : V} {n : String} (h : BenAt K C H b L) (ty : TyX K H x (.type n)) (nf : PySem.W.notFirst K C (.type n) = true) (hk : PySem.W.kitOne K (.type n) (.ref C) = some false) (q : Q (.bl false) H) : rOwnX K C (spBEq K C) (.ref b) x H Q := by
  obtain ⟨dx, fs, e⟩ := h.ins
  exact i_eqOwnX e ty nf ⟨b, L, _, rfl, h, .inr ⟨n, ty, hk, q⟩⟩
end
theorem kd_str {H : Hp} {v : V} {n : String} (h : Kd H v n) : (∃ s, v = .str s) ∨ kitB n "str" = some false := by
  cases h with
  | str x => exact .inl ⟨x, rfl⟩
  | _ => exact .inr (by rfl)
/-! ### promises -/
def spSome (K : PySem.W.Frag) : Sp := fun vs H Q _ => ∃ (p q : Addr) (ws : List Str) (m : Nat) (n : Int), vs = [.ref p, .ref q, .int m] ∧ Pot H p n ∧ n < 900000 ∧ SqL K H q (ws.map V.str) ∧ ws.Nodup ∧ m ≤ ws.length ∧ ws.length ≤ 100 ∧
  ∀ (r : Addr) (H' : Hp) (ns : List Str), But p H H' → Pot H' p (n + m) → H r = none → H' r = some (.lst (ns.map V.str)) → ns.length = m → ns.Nodup → (∀ x ∈ ns, x ∈ ws) → Q (.ref r) H'
def spNames (K : PySem.W.Frag) : Sp := fun vs H Q _ => ∃ (p : Addr) (m : Nat) (n : Int), vs = [.ref p, .int m] ∧ Pot H p n ∧ n < 900000 ∧ m ≤ 13 ∧
  ∀ (r : Addr) (H' : Hp) (ns : List Str), But p H H' → Pot H' p (n + m) → H r = none → H' r = some (.lst (ns.map V.str)) → ns.length = m → ns.Nodup → (∀ x ∈ ns, NmOk x) → Q (.ref r) H'
def spLoadsOf (K : PySem.W.Frag) : Sp := fun vs H Q _ => ∃ (p : Addr) (m : Nat) (w n : Int), vs = [.ref p, .int m, .int w] ∧ Pot H p n ∧ n < 900000 ∧ m ≤ 100 ∧
  ∀ (r : Addr) (H' : Hp) (xs : List V) (qs : List Rat), But p H H' → Pot H' p (n + 2 * m) → H r = none → H' r = some (.lst xs) → DpAll K H' xs (qs.map ratD) → qs.length = m → (∀ q ∈ qs, RatOk q) → Q (.ref r) H'
def spRanges (K : PySem.W.Frag) : Sp := fun vs H Q _ => ∃ (p : Addr) (m : Nat) (w n : Int), vs = [.ref p, .int m, .int w] ∧ Pot H p n ∧ n < 850000 ∧ 1 ≤ m ∧ m ≤ 4 ∧
  ∀ (r : Addr) (H' : Hp) (xs : List V) (rows : List Row), But p H H' → Pot H' p (n + 100) → H r = none → H' r = some (.lst xs) → DpAll K H' xs (rows.map rowD) → rows.length = m → RowsOk [] rows → Q (.ref r) H'
def spLore (K : PySem.W.Frag) : Sp := fun vs H Q _ => ∃ (p s : Addr) (ns : List Nat) (w n : Int) (l : Nat), vs = [.ref p, .ref s, .int w, .int l] ∧ Pot H p n ∧ n < 800000 ∧ H s = some (.lst (ns.map fun k : Nat => V.int k)) ∧ 1 ≤ ns.length ∧ ns.length ≤ 3 ∧ (∀ k ∈ ns, 1 ≤ k ∧ k ≤ 4) ∧ l ≤ 2 ∧ s ≠ p ∧
  ∀ d H' L, But p H H' → Pot H' p (n + 1000) → LoreAt K (fun a => H a = none) H' d L → LoreOk L → L.meters.map (·.2.length) = ns → L.loads.length = l → Q (.ref d) H'
def spRatioText (K : PySem.W.Frag) : Sp := fun vs H Q _ => ∃ (a : Addr) (q : Rat), vs = [.ref a] ∧ SqT K H a (rat q) ∧ RatOk q ∧ Q (.str (rT q)) H
def spRowLine (K : PySem.W.Frag) : Sp := fun vs H Q _ => ∃ (a : Addr) (r : Row) (ah : List Row), vs = [.ref a] ∧ Dp K H (.ref a) (rowD r) ∧ RowOk r ah ∧ Q (.str (rowLine r)) H
def spText (K : PySem.W.Frag) : Sp := fun vs H Q _ => ∃ (d : Addr) (F : Addr → Prop) (L : Lore), vs = [.ref d] ∧ LoreAt K F H d L ∧ LoreOk L ∧ ∀ H', Same H H' → Q (.str (textOf L)) H'
def spLower (K : PySem.W.Frag) : Sp := fun vs H Q _ => ∃ (d a : Addr) (F : Addr → Prop) (L : Lore) (r : Row) (ah : List Row), vs = [.ref d, .ref a] ∧ LoreAt K F H d L ∧ LoreOk L ∧ Dp K H (.ref a) (rowD r) ∧ RowOk r ah ∧ ∀ v H', Same H H' → Dp K H' v (optD (lowR L.spread r).D) → Q v H'
def spTold (K : PySem.W.Frag) : Sp := fun vs H Q _ => ∃ (d b : Addr) (F : Addr → Prop) (L : Lore) (xs : List V) (rows : List Row), vs = [.ref d, .ref b] ∧ LoreAt K F H d L ∧ LoreOk L ∧ H b = some (.lst xs) ∧ DpAll K H xs (rows.map rowD) ∧ RowsOk [] rows ∧ rows.length ≤ 4 ∧
  ∀ p H', Same H H' → H p = none → Dp K H' (.ref p) (.tuple (rows.map fun r => rowD (lowR L.spread r))) → Q (.ref p) H'
def spShape (K : PySem.W.Frag) : Sp := fun vs H Q _ => ∃ (p : Addr) (n : Int), vs = [.ref p] ∧ Pot H p n ∧ n < 800000 ∧
  ∀ (t s : Addr) (H' : Hp) (ns : List Nat) (l : Nat), But p H H' → Pot H' p (n + 1) → H s = none → H' t = some (.tup [.ref s, .int l]) → H' s = some (.lst (ns.map fun k : Nat => V.int k)) → 1 ≤ ns.length → ns.length ≤ 3 → (∀ k ∈ ns, 1 ≤ k ∧ k ≤ 4) → l ≤ 2 → Q (.ref t) H'
/-- a value that is no bench -/
def AnyV (H : Hp) (v : V) : Prop := ∃ n : String, Kd H v n
theorem AnyV.same {H H' : Hp} {v : V} (h : AnyV H v) (S : Same H H') : AnyV H' v := by
  obtain ⟨n, h⟩ := h
  exact ⟨n, h.same S⟩
def AnyF (H0 H : Hp) (v : V) : Prop := ∃ n : String, Kd H v n ∧ ∀ a, v = .ref a → H0 a = none
theorem anyF_all {H0 H : Hp} {v : V} {vs : List V} (h : AnyF H0 H v) (hs : ∀ x ∈ vs, AnyF H0 H x) : ∀ x ∈ v :: vs, AnyF H0 H x := fun x hx => by
  rcases List.mem_cons.mp hx with rfl | hx
  · exact h
  · exact hs x hx
theorem anyF_kd {H0 H : Hp} {v : V} {n : String} (h : Kd H v n) (hv : ∀ a, v ≠ .ref a) : AnyF H0 H v := ⟨n, h, fun a e => absurd e (hv a)⟩
theorem anyF_tup {H0 H : Hp} {a : Addr} {xs : List V} (e : H a = some (.tup xs)) (h : H0 a = none) : AnyF H0 H (.ref a) := ⟨_, .tup e, fun b eb => by cases eb; exact h⟩
theorem anyF_lst {H0 H : Hp} {a : Addr} {xs : List V} (e : H a = some (.lst xs)) (h : H0 a = none) : AnyF H0 H (.ref a) := ⟨_, .lst e, fun b eb => by cases eb; exact h⟩
theorem anyF_dic {H0 H : Hp} {a : Addr} {xs : List (Key × V)} (e : H a = some (.dK xs)) (h : H0 a = none) : AnyF H0 H (.ref a) := ⟨_, .dic e, fun b eb => by cases eb; exact h⟩
def spAny (K : PySem.W.Frag) : Sp := fun vs H Q _ => ∃ (p : Addr) (n : Int), vs = [.ref p] ∧ Pot H p n ∧ n < 900000 ∧ ∀ v H', But p H H' → Pot H' p (n + 1) → AnyV H' v → Q v H'
def spLoreAny (K : PySem.W.Frag) : Sp := fun vs H Q _ => ∃ (p : Addr) (n : Int), vs = [.ref p] ∧ Pot H p n ∧ n < 700000 ∧ ∀ d H' L, But p H H' → Pot H' p (n + 1002) → LoreAt K (fun a => H a = none) H' d L → LoreOk L → Q (.ref d) H'
end My

/-! own layer: settings of benches, and the steps between them -/
namespace My
open PySem PySem.Spec PyProof.Rows L2 TL
/-! ### in, for data of any depth in a tuple -/
section
variable {X : Cx}
def rInDT (K : PySem.W.Frag) : R2 := fun x y H Q => ∃ d ds, Dp K H x d ∧ Dp K H y (.tuple ds) ∧ SeqAt.shaped d = true ∧ SeqAt.shaped (.tuple ds) = true ∧ Q (.bl (ds.any fun z => PyData.eqv z d)) H
def rNotInDT (K : PySem.W.Frag) : R2 := fun x y H Q => ∃ d ds, Dp K H x d ∧ Dp K H y (.tuple ds) ∧ SeqAt.shaped d = true ∧ SeqAt.shaped (.tuple ds) = true ∧ Q (.bl (!ds.any fun z => PyData.eqv z d)) H
theorem op_inDT (hu : X.A.units + 65 < cLine) : OpR X (compareOp .In) (rInDT X.K) := by
  intro pins s σ H x y v u Q I rx ry h
  obtain ⟨d, ds, hd, he, sd, se, q⟩ := h
  obtain ⟨as, r1⟩ := Dp.reads I d x v hd rx
  obtain ⟨bs, r2⟩ := Dp.reads I (.tuple ds) y u he ry
  exact SeqAt.in_tuple_reads r2 r1 (SeqAt.canLay_of_shaped se) (SeqAt.canLay_of_shaped sd) (room_in_shaped sd hu) ⟨.bl _, H, I, rfl, q⟩
theorem op_notInDT (hu : X.A.units + 65 < cLine) : OpR X (compareOp .NotIn) (rNotInDT X.K) := by
  intro pins s σ H x y v u Q I rx ry h
  obtain ⟨d, ds, hd, he, sd, se, q⟩ := h
  obtain ⟨as, r1⟩ := Dp.reads I d x v hd rx
  obtain ⟨bs, r2⟩ := Dp.reads I (.tuple ds) y u he ry
  exact SeqAt.notIn_tuple_reads r2 r1 (SeqAt.canLay_of_shaped se) (SeqAt.canLay_of_shaped sd) (room_in_shaped sd hu) ⟨.bl _, H, I, rfl, q⟩
end
/-! ### tuples that are known to the object, and their methods -/
section
variable {X : Cx}
/-- a new tuple, known to be of no dict -/
def TupF (H : Hp) (p : Addr) (xs : List V) : Prop := ∃ ob : Obj, H p = some (.frz ob (.tup xs)) ∧ ob.cls = .type "tuple" ∧ ob.dict = none
def rTupF (K : PySem.W.Frag) : List V → Hp → VK → Prop := fun xs H Q => ∃ p ys, xs = [.ref p] ∧ SqL K H p ys ∧ ∀ l H', Same H H' → H l = none → TupF H' l ys → Q (.ref l) H'
theorem cr_tupF : CallR X (.type "tuple") (rTupF X.K) := by
  intro pins s σ H xs us Q I r h
  obtain ⟨p, ys, rfl, hq, q⟩ := h
  obtain ⟨u, rfl, rx⟩ := vals1 r
  cases rx
  obtain ⟨its, r', pl, hz⟩ := I.list hq
  have hlen := r'.length
  refine call_tuple_list pl.isList (fun h' kp => ?_) (by simp only [List.size_toArray] <;> omega)
  have I1 : Inv X pins σ H { s with heap := h' } := I.kept (t' := s.toks) kp
  have I2 : Inv X pins σ (upd H h'.objs.size (.frz { cls := .type "tuple", data := .seq its.toArray } (.tup ys))) { s with heap := h'.push { cls := .type "tuple", data := .seq its.toArray } } :=
    I1.laid (t' := s.toks) (fun b o e => Heap.get?_push_of_some _ e) (Nat.le_refl _) (show ObjOk X.prog X.w _ _ _ (.frz _ (.tup ys)) from ⟨Heap.get?_push_size _ rfl, hz, its, r', IsTup.new _ _⟩)
  have hf := I1.hok.fresh (Nat.le_refl h'.objs.size)
  exact ⟨.ref h'.objs.size, _, I2, rfl, q _ _ (fun b o e => by rw [upd_ne (ne_of_none e hf)]; exact e) hf ⟨_, upd_same, rfl, rfl⟩⟩
def tBMT (r : V → List V → Hp → VK → Prop) (to : TE) (t : TA) : TE := fun σ H Q => to σ H fun x H1 => (∃ p xs, x = .ref p ∧ TupF H1 p xs) ∧ t σ H1 fun xs H2 => r x xs H2 Q
variable {o e : Expr} {es : List Expr} {to : TE} {t : TA} {name : Str} {apos cpos : Pos} {id : String} {r : V → List V → Hp → VK → Prop}
theorem pe_bmT (pa : PlainAttrs "tuple") (slot : Slot "tuple" name id) (hty : typeOf (.builtin id) = pure (.type "method_descriptor")) (hm : MtR X id r) (ho : PE X o to) (ha : PA X (e :: es) t)
    (hbase : attributeBase o name X.env (eval o X.env) = eval o X.env := by rfl)
    (hfew : ((backTo cpos (starEach (e :: es) X.env)).all (fun x => !x.1) && (backToKw cpos (keywordEach [] X.env)).all (fun x => x.1.isSome)
      && decide ((e :: es).length + ([] : List Keyword).length + (if ([] : List Keyword).isEmpty then 0 else 1) < 30)) = true := by rfl)
    (hline : (apos.endLine == cpos.line) = true := by rfl) (hs : starEach (e :: es) X.env = (false, eval e X.env) :: starEach es X.env := by rfl) (hplain : (backTo cpos (starEach es X.env)).any (·.1) = false := by rfl) :
    PE X (.Call (.Attribute o name apos) (e :: es) [] cpos) (tBMT r to t) := by
  refine ⟨fun pins s σ H Q I h => ?_⟩
  refine wpAny_Call_method_late hbase hfew hline rfl (thn (ho.run pins s σ H _ I h) fun v s1 ⟨x, H1, I1, r1, ty, q1⟩ => ?_)
  obtain ⟨p, xs, rfl, ob, hp, hc, hd⟩ := ty
  cases r1
  obtain ⟨hg, _⟩ := I1.hok p _ hp
  refine ⟨"tuple", id, pa, slot, hty, ⟨ob, hg, hc⟩, (fun a ea => by cases ea; exact ⟨ob, hg, hd⟩), ?_⟩
  have hA := ha.run cpos pins s1 σ H1 _ I1 q1
  rw [hs] at hA ⊢
  refine Calls.callWith_builtin (by show (false || (backTo cpos (starEach es X.env)).any (·.1)) = false; rw [hplain] <;> rfl) (Calls.evalArgs_plain ?_)
  exact thn hA fun us s2 ⟨vs, H2, I2, r2, q2⟩ => hm pins s2 σ H2 (.ref p) vs (.ref p) us Q I2 rfl r2 q2
end
theorem i_bmT {r : V → List V → Hp → VK → Prop} {to : TE} {t : TA} {σ : L2.St} {H : Hp} {Q : VK} (h : to σ H fun x H1 => (∃ p xs, x = .ref p ∧ TupF H1 p xs) ∧ t σ H1 fun xs H2 => r x xs H2 Q) : tBMT r to t σ H Q := h
theorem TupF.sq {K : PySem.W.Frag} {H : Hp} {p : Addr} {xs : List V} (h : TupF H p xs) : SqT K H p xs := by
  obtain ⟨ob, h, _⟩ := h
  exact .inl (.inr ⟨ob, h⟩)
theorem TupF.same {H H' : Hp} {p : Addr} {xs : List V} (h : TupF H p xs) (S : Same H H') : TupF H' p xs := by
  obtain ⟨ob, h, a⟩ := h
  exact ⟨ob, S _ _ h, a⟩
/-! ### what can be laid out -/
theorem canLay_names {ns : List Str} (h : ∀ n ∈ ns, WOk n) : PyData.canLay0 (namesD ns) = true := SeqAt.canLay_of_shaped (shaped_strs h)
theorem depth_names (ns : List Str) : PyData.depth (namesD ns) = 1 := by
  have h2 : ∀ ws : List Str, PyData.depthAll (ws.map .str) = 0 := by
    intro ws
    induction ws with
    | nil => rfl
    | cons w ws ih =>
      show max (PyData.depth (.str w)) (PyData.depthAll (ws.map .str)) = 0
      rw [ih]
      rfl
  show PyData.depthAll (ns.map .str) + 1 = 1
  rw [h2]
/-- names that may be written -/
def StOk (s : List Str × List Str) : Prop := (∀ n ∈ s.1, WOk n) ∧ ∀ n ∈ s.2, WOk n
theorem canLay_setting {s : List Str × List Str} (h : StOk s) : PyData.canLay0 (settingD s) = true := by
  show (PyData.canLay0 (namesD s.1) && (PyData.canLay0 (namesD s.2) && true)) = true
  rw [canLay_names h.1, canLay_names h.2]
  rfl
theorem depth_setting (s : List Str × List Str) : PyData.depth (settingD s) = 2 := by
  show max (PyData.depth (namesD s.1)) (max (PyData.depth (namesD s.2)) 0) + 1 = 2
  rw [depth_names, depth_names]
  rfl
theorem shaped_setting {s : List Str × List Str} (h : StOk s) : SeqAt.shaped (settingD s) = true := by
  unfold SeqAt.shaped
  rw [canLay_setting h, depth_setting]
  rfl
theorem shaped_tup {ds : List PyData} (h : ∀ d ∈ ds, PyData.canLay0 d = true ∧ PyData.depth d ≤ 60) : SeqAt.shaped (.tuple ds) = true := by
  have h1 : ∀ ds : List PyData, (∀ d ∈ ds, PyData.canLay0 d = true ∧ PyData.depth d ≤ 60) → PyData.canLayAll0 ds = true ∧ PyData.depthAll ds ≤ 60 := by
    intro ds
    induction ds with
    | nil => intro _; exact ⟨rfl, Nat.zero_le _⟩
    | cons d ds ih =>
      intro h
      obtain ⟨i1, i2⟩ := ih fun x hx => h x (List.mem_cons_of_mem _ hx)
      obtain ⟨j1, j2⟩ := h d List.mem_cons_self
      refine ⟨?_, ?_⟩
      · show (PyData.canLay0 d && PyData.canLayAll0 ds) = true
        rw [i1, j1]; rfl
      · show max (PyData.depth d) (PyData.depthAll ds) ≤ 60
        exact Nat.max_le.mpr ⟨j2, i2⟩
  obtain ⟨i1, i2⟩ := h1 ds h
  unfold SeqAt.shaped
  rw [Bool.and_eq_true]
  refine ⟨i1, decide_eq_true ?_⟩
  show PyData.depthAll ds + 1 ≤ 64
  omega
/-! ### two settings are one just if their names are -/
theorem eqvAll_strs : ∀ a b : List Str, PyData.eqvAll (a.map .str) (b.map .str) = decide (a = b) := by
  intro a
  induction a with
  | nil => intro b; cases b <;> rfl
  | cons x a ih =>
    intro b
    cases b with
    | nil => rfl
    | cons y b =>
      show (PyData.eqv (.str x) (.str y) && PyData.eqvAll (a.map .str) (b.map .str)) = _
      rw [ih, show PyData.eqv (.str x) (.str y) = (x == y) by simp [PyData.eqv]]
      by_cases h1 : x = y <;> by_cases h2 : a = b <;> simp [h1, h2]
theorem eqv_names (a b : List Str) : PyData.eqv (namesD a) (namesD b) = decide (a = b) := by
  show PyData.eqv (.tuple _) (.tuple _) = _
  rw [PyData.eqv]
  exact eqvAll_strs a b
theorem eqv_setting (s t : List Str × List Str) : PyData.eqv (settingD s) (settingD t) = decide (s = t) := by
  show PyData.eqv (.tuple _) (.tuple _) = _
  rw [PyData.eqv]
  show (PyData.eqv (namesD s.1) (namesD t.1) && (PyData.eqv (namesD s.2) (namesD t.2) && true)) = _
  rw [eqv_names, eqv_names, Bool.and_true, ← Bool.decide_and]
  exact decide_eq_decide.mpr ⟨fun h => Prod.ext h.1 h.2, fun h => by rw [h]; exact ⟨rfl, rfl⟩⟩
/-! ### all that is merged stays -/
theorem mem_mrg : ∀ as bs : List PyData, ∀ x, x ∈ as ∨ x ∈ bs → x ∈ mrg as bs
  | [], bs => fun x h => by
    rw [mrg_nil]
    rcases h with h | h
    · cases h
    · exact h
  | a :: as, [] => fun x h => by
    rw [mrg_nil2]
    rcases h with h | h
    · exact h
    · cases h
  | a :: as, b :: bs => fun x h => by
    rw [mrg_cons]
    split
    · rcases h with h | h
      · exact List.mem_cons_of_mem _ (mem_mrg (a :: as) bs x (.inl h))
      · rcases List.mem_cons.mp h with rfl | h
        · exact List.mem_cons_self
        · exact List.mem_cons_of_mem _ (mem_mrg (a :: as) bs x (.inr h))
    · rcases h with h | h
      · rcases List.mem_cons.mp h with rfl | h
        · exact List.mem_cons_self
        · exact List.mem_cons_of_mem _ (mem_mrg as (b :: bs) x (.inl h))
      · exact List.mem_cons_of_mem _ (mem_mrg as (b :: bs) x (.inr h))
termination_by as bs => as.length + bs.length
theorem mem_srt : ∀ (n : Nat) (ds : List PyData), ∀ x ∈ ds, x ∈ srt n ds
  | 0, ds => fun x h => h
  | n + 1, ds => fun x h => by
    unfold srt
    split
    · exact h
    · refine mem_mrg _ _ x ?_
      rw [← List.take_append_drop (ds.length / 2) ds] at h
      rcases List.mem_append.mp h with h | h
      · exact .inl (mem_srt n _ x h)
      · exact .inr (mem_srt n _ x h)
/-- whether it is a setting of the bench -/
theorem any_settings (L : Lore) (s : List Str × List Str) : ((srt 8 ((rawSettings L).map settingD)).any fun z => PyData.eqv z (settingD s)) = decide (s ∈ rawSettings L) := by
  by_cases h : s ∈ rawSettings L
  · rw [decide_eq_true h, List.any_eq_true]
    exact ⟨settingD s, mem_srt _ _ _ (List.mem_map.mpr ⟨s, h, rfl⟩), by rw [eqv_setting]; exact decide_eq_true rfl⟩
  · rw [decide_eq_false h, List.any_eq_false]
    intro z hz e
    obtain ⟨t, ht, rfl⟩ := List.mem_map.mp (srt_mem _ _ z hz)
    rw [eqv_setting] at e
    exact h (of_decide_eq_true e ▸ ht)
/-! ### which settings there are -/
theorem mem_places : ∀ (ms : List (Str × List Row)) (ps : List (List Str)) (p : List Str), p ∈ ms.foldl (fun ps m => ps.flatMap fun p => m.2.map fun r => p ++ [r.n]) ps ↔ ∃ q ∈ ps, ∃ rs : List Str, p = q ++ rs ∧ rs.length = ms.length ∧ ∀ (i : Nat) (m : Str × List Row), ms[i]? = some m → ∃ r ∈ m.2, rs[i]? = some r.n
  | [], ps, p => by
    refine ⟨fun h => ⟨p, h, [], by simp, rfl, fun i m e => by simp at e⟩, ?_⟩
    rintro ⟨q, hq, rs, rfl, h, _⟩
    rw [List.length_eq_zero_iff.mp h, List.append_nil]
    exact hq
  | m :: ms, ps, p => by
    rw [List.foldl_cons, mem_places ms]
    constructor
    · rintro ⟨q, hq, rs, rfl, hl, hr⟩
      obtain ⟨q0, hq0, hq⟩ := List.mem_flatMap.mp hq
      obtain ⟨r, hr0, rfl⟩ := List.mem_map.mp hq
      refine ⟨q0, hq0, r.n :: rs, by simp, by simp [hl], fun i m' e => ?_⟩
      cases i with
      | zero =>
        simp only [List.getElem?_cons_zero, Option.some.injEq] at e
        subst e
        exact ⟨r, hr0, by simp⟩
      | succ j =>
        simp only [List.getElem?_cons_succ] at e ⊢
        exact hr j m' e
    · rintro ⟨q, hq, rs, rfl, hl, hr⟩
      cases rs with
      | nil => simp at hl
      | cons x rs =>
        obtain ⟨r, hr0, e⟩ := hr 0 m (by simp)
        simp only [List.getElem?_cons_zero, Option.some.injEq] at e
        subst e
        refine ⟨q ++ [r.n], List.mem_flatMap.mpr ⟨q, hq, List.mem_map.mpr ⟨r, hr0, rfl⟩⟩, rs, by simp, by simpa using hl, fun i m' e => ?_⟩
        have := hr (i + 1) m' (by simpa using e)
        simpa using this
theorem mem_choicesF : ∀ (ls : List (Str × Rat)) (cs : List (List Str)) (c : List Str), c ∈ ls.foldl (fun cs l => cs ++ cs.map fun c => c ++ [l.1]) cs ↔ ∃ q ∈ cs, ∃ r : List Str, c = q ++ r ∧ List.Sublist r (ls.map (·.1))
  | [], cs, c => by
    refine ⟨fun h => ⟨c, h, [], by simp, List.Sublist.slnil⟩, ?_⟩
    rintro ⟨q, hq, r, rfl, h⟩
    rw [List.sublist_nil.mp h, List.append_nil]
    exact hq
  | l :: ls, cs, c => by
    rw [List.foldl_cons, mem_choicesF ls]
    constructor
    · rintro ⟨q, hq, r, rfl, hr⟩
      rcases List.mem_append.mp hq with hq | hq
      · exact ⟨q, hq, r, rfl, List.Sublist.cons _ hr⟩
      · obtain ⟨q0, hq0, rfl⟩ := List.mem_map.mp hq
        exact ⟨q0, hq0, l.1 :: r, by simp, List.Sublist.cons_cons _ hr⟩
    · rintro ⟨q, hq, r, rfl, hr⟩
      cases hr with
      | cons _ hr => exact ⟨q, List.mem_append.mpr (.inl hq), r, rfl, hr⟩
      | cons_cons _ hr => exact ⟨q ++ [l.1], List.mem_append.mpr (.inr (List.mem_map.mpr ⟨q, hq, rfl⟩)), _, by simp, hr⟩
/-- a setting of this bench -/
structure InB (L : Lore) (s : List Str × List Str) : Prop where
  len : s.1.length = L.meters.length
  at_ : ∀ (i : Nat) (m : Str × List Row), L.meters[i]? = some m → ∃ r ∈ m.2, s.1[i]? = some r.n
  sub : List.Sublist s.2 (L.loads.map (·.1))
theorem mem_raw {L : Lore} {s : List Str × List Str} : s ∈ rawSettings L ↔ InB L s := by
  unfold rawSettings placesOf choicesOf
  constructor
  · intro h
    obtain ⟨p, hp, h⟩ := List.mem_flatMap.mp h
    obtain ⟨c, hc, rfl⟩ := List.mem_map.mp h
    obtain ⟨q, hq, rs, rfl, h1, h2⟩ := (mem_places _ _ _).mp hp
    obtain ⟨q2, hq2, r, rfl, h3⟩ := (mem_choicesF _ _ _).mp hc
    rw [List.mem_singleton.mp hq, List.mem_singleton.mp hq2]
    exact ⟨by simpa using h1, by simpa using h2, by simpa using h3⟩
  · rintro ⟨h1, h2, h3⟩
    refine List.mem_flatMap.mpr ⟨s.1, (mem_places _ _ _).mpr ⟨[], by simp, s.1, by simp, h1, h2⟩, List.mem_map.mpr ⟨s.2, (mem_choicesF _ _ _).mpr ⟨[], by simp, s.2, by simp, h3⟩, rfl⟩⟩
theorem InB.ok {L : Lore} {s : List Str × List Str} (h : InB L s) (ok : LoreOk L) : StOk s := by
  refine ⟨fun n hn => ?_, fun n hn => ?_⟩
  · obtain ⟨i, hi, rfl⟩ := List.mem_iff_getElem.mp hn
    have hi2 : i < L.meters.length := by rw [← h.len]; exact hi
    obtain ⟨r, hr, e⟩ := h.at_ i _ (List.getElem?_eq_getElem hi2)
    obtain ⟨ah, rok⟩ := ok.row (List.getElem_mem hi2) hr
    rw [List.getElem?_eq_getElem hi, Option.some.injEq] at e
    rw [e]
    exact rok.nm.w
  · have := h.sub.mem hn
    obtain ⟨l, hl, rfl⟩ := List.mem_map.mp this
    exact (ok.ln l hl).1.w
theorem shaped_settings {L : Lore} (ok : LoreOk L) : SeqAt.shaped (settingsD L) = true := by
  unfold settingsD
  refine shaped_tup fun d hd => ?_
  obtain ⟨s, hs, rfl⟩ := List.mem_map.mp (srt_mem _ _ d hd)
  exact ⟨canLay_setting ((mem_raw.mp hs).ok ok), by rw [depth_setting]; decide⟩
theorem hu65 {k : Nat} {A : Around} (hr : Room k A) : A.units + 65 < cLine := by
  have := hr.un
  omega
/-! ### names of ranges differ -/
theorem RowsOk.nd : ∀ {rows ahead : List Row}, RowsOk ahead rows → (rows.map (·.n)).Nodup ∧ ∀ r ∈ rows, ∀ a ∈ ahead, a.n ≠ r.n
  | [], _, _ => ⟨.nil, fun r hr => by cases hr⟩
  | r :: rs, ahead, ⟨h1, _, _, h4⟩ => by
    obtain ⟨i1, i2⟩ := RowsOk.nd h4
    refine ⟨?_, fun x hx a ha => ?_⟩
    · rw [List.map_cons, List.nodup_cons]
      refine ⟨fun hm => ?_, i1⟩
      obtain ⟨x, hx, e⟩ := List.mem_map.mp hm
      exact i2 x hx r (List.mem_append.mpr (.inr (List.mem_singleton.mpr rfl))) e.symm
    · rcases List.mem_cons.mp hx with rfl | hx
      · exact h1.fresh a ha
      · exact i2 x hx a (List.mem_append.mpr (.inl ha))
theorem eqV_str_self (n : Str) : eqV (.str n) (.str n) = true := by simp [eqV]
theorem eqV_str_ne {a b : Str} (h : a ≠ b) : eqV (.str a) (.str b) = false := by simp [eqV, h]
/-! ### promises -/
def spBNamesF (K : PySem.W.Frag) (C : Addr) (f : Lore → List Str) : Sp := fun vs H Q _ => ∃ (b : Addr) (L : Lore), vs = [.ref b] ∧ BenAt K C H b L ∧ (f L).length ≤ 100 ∧ ∀ p H', Same H H' → H p = none → TupF H' p ((f L).map V.str) → Q (.ref p) H'
theorem i_bNamesF {K : PySem.W.Frag} {C b : Addr} {H : Hp} {Q : VK} {L : Lore} {E : XK} {f : Lore → List Str} (h : BenAt K C H b L) (hf : (f L).length ≤ 100) (q : ∀ p H', Same H H' → H p = none → TupF H' p ((f L).map V.str) → Q (.ref p) H') : PropQ C (spBNamesF K C f) [] E (.ref b) H Q := i_bProp h ⟨b, L, rfl, h, hf, q⟩
theorem i_tupF {K : PySem.W.Frag} {H : Hp} {Q : VK} {l : Addr} {ys : List V} (hl : SqL K H l ys) (h : ∀ p H1, Same H H1 → H p = none → TupF H1 p ys → Q (.ref p) H1) : rTupF K [.ref l] H Q := ⟨l, ys, rfl, hl, h⟩
def spNeed (K : PySem.W.Frag) (C : Addr) : Sp := fun vs H Q _ => ∃ (b : Addr) (L : Lore) (x : V) (s : List Str × List Str), vs = [.ref b, x] ∧ BenAt K C H b L ∧ LoreOk L ∧ Dp K H x (settingD s) ∧ InB L s ∧ Q .non H
/-- the place behind a step -/
def goes (n j : Nat) (up : Bool) : Option Nat := if up then (if j + 1 < n then some (j + 1) else none) else (if 0 < j then some (j - 1) else none)
def wayS (up : Bool) : Str := if up then "up" else "down"
def spBehind (K : PySem.W.Frag) (C : Addr) : Sp := fun vs H Q _ => ∃ (b t : Addr) (L : Lore) (x : V) (s : List Str × List Str) (i j : Nat) (m : Str × List Row) (r : Row) (up : Bool), vs = [.ref b, x, .ref t] ∧ BenAt K C H b L ∧ LoreOk L ∧ Dp K H x (settingD s) ∧ InB L s ∧ SqT K H t [.str m.1, .str (wayS up)] ∧
  L.meters[i]? = some m ∧ m.2[j]? = some r ∧ s.1[i]? = some r.n ∧
  (goes m.2.length j up = none → ∀ H', Same H H' → Q .non H') ∧ ∀ (k : Nat) (r' : Row), goes m.2.length j up = some k → m.2[k]? = some r' → ∀ v H', Same H H' → Dp K H' v (settingD (s.1.set i r'.n, s.2)) → Q v H'
/-- a step that is possible, done -/
def spAfter (K : PySem.W.Frag) (C : Addr) : Sp := fun vs H Q _ => ∃ (b t : Addr) (L : Lore) (x : V) (s : List Str × List Str) (i j k : Nat) (m : Str × List Row) (r r' : Row) (up : Bool), vs = [.ref b, x, .ref t] ∧ BenAt K C H b L ∧ LoreOk L ∧ Dp K H x (settingD s) ∧ InB L s ∧ H t = some (.tup [.str m.1, .str (wayS up)]) ∧
  L.meters[i]? = some m ∧ m.2[j]? = some r ∧ s.1[i]? = some r.n ∧ goes m.2.length j up = some k ∧ m.2[k]? = some r' ∧ ∀ v H', Same H H' → Dp K H' v (settingD (s.1.set i r'.n, s.2)) → Q v H'
theorem i_bNinS {K : PySem.W.Frag} {C b : Addr} {H : Hp} {Q : VK} {L : Lore} {n : Str} (h : BenAt K C H b L) (q : Q (.bl (!decide (n ∈ L.meters.map (·.1)))) H) : rNinOwn C (spBIn K C) (.str n) (.ref b) H Q := by
  obtain ⟨dx, fs, e⟩ := h.ins
  exact ⟨b, dx, fs, rfl, e, b, L, _, rfl, h, .inl ⟨n, rfl, _, rfl, q⟩⟩
/-- the loads that are on, one of them turned -/
def turnS (L : Lore) (on : List Str) (n : Str) : List Str := (L.loads.map (·.1)).filter fun a => decide (a ∈ on) != decide (a = n)
def spTurned (K : PySem.W.Frag) (C : Addr) : Sp := fun vs H Q _ => ∃ (b : Addr) (L : Lore) (x : V) (s : List Str × List Str) (n : Str), vs = [.ref b, x, .str n] ∧ BenAt K C H b L ∧ LoreOk L ∧ Dp K H x (settingD s) ∧ InB L s ∧ n ∈ L.loads.map (·.1) ∧
  ∀ v H', Same H H' → Dp K H' v (settingD (s.1, turnS L s.2 n)) → Q v H'
theorem inV_dec (n : Str) (xs : List Str) : inV (.str n) (xs.map V.str) = decide (n ∈ xs) := by
  by_cases h : n ∈ xs
  · rw [inV_yes h, decide_eq_true h]
  · rw [inV_no h, decide_eq_false h]
end My

/-! own layer: benches made of a bench -/
namespace My
open PySem PySem.Spec PyProof.Rows L2 TL
/-! ### a meter left out, line by line -/
def blankB (w : Str) : Bool := decide ((tl w).head? = some 32)
/-- the lines that stay; f: whether the one ahead is left out -/
def keepL (n : Str) : Bool → List Str → List Str
  | _, [] => []
  | f, w :: ws => if (if blankB w then f else decide (w = meterLine n)) = true then keepL n (if blankB w then f else decide (w = meterLine n)) ws else w :: keepL n (if blankB w then f else decide (w = meterLine n)) ws
theorem tl_meterLine (n : Str) : tl (meterLine n) = tl ("meter " : Str) ++ tl n := by rw [← meterLine_told, tl_append]
theorem meterLine_inj {m n : Str} (h : meterLine m = meterLine n) : m = n := by
  have := congrArg tl h
  rw [tl_meterLine, tl_meterLine] at this
  exact ext_tl (List.append_cancel_left this)
theorem blank_meter (n : Str) : blankB (meterLine n) = false := by
  unfold blankB
  rw [tl_meterLine]
  rfl
theorem blank_row (r : Row) : blankB (rowLine r) = true := by
  unfold blankB
  rw [rowLine_told, tl_append, tl_append]
  unfold rowHead
  rw [tl_append, tl_append, tl_append, tl_append, tl_append]
  rfl
theorem tl_loadLine (l : Str × Rat) : tl (loadLine l) = tl ("load " : Str) ++ (tl l.1 ++ (tl (" " : Str) ++ tl (rT l.2))) := by
  rw [← loadLine_told, tl_append, tl_append, tl_append, List.append_assoc, List.append_assoc]
theorem blank_load (l : Str × Rat) : blankB (loadLine l) = false := by
  unfold blankB
  rw [tl_loadLine]
  rfl
theorem load_ne_meter (l : Str × Rat) (n : Str) : loadLine l ≠ meterLine n := fun h => by
  have := congrArg (fun w => (tl w).head?) h
  simp only [tl_loadLine, tl_meterLine] at this
  have this : some 108 = some 109 := this
  cases this
theorem tl_spreadLine (s : Nat) : tl (spreadLine s) = tl ("spread " : Str) ++ tl (nS s) := by rw [← spreadLine_eq, tl_append]
theorem blank_spread (s : Nat) : blankB (spreadLine s) = false := by
  unfold blankB
  rw [tl_spreadLine]
  rfl
theorem spread_ne_meter (s : Nat) (n : Str) : spreadLine s ≠ meterLine n := fun h => by
  have := congrArg (fun w => (tl w).head?) h
  simp only [tl_spreadLine, tl_meterLine] at this
  have this : some 115 = some 109 := this
  cases this
theorem keep_blank {n w : Str} {f : Bool} {ws : List Str} (h : blankB w = true) : keepL n f (w :: ws) = if f = true then keepL n f ws else w :: keepL n f ws := by
  rw [keepL]
  simp only [h, if_true]
theorem keep_mark {n w : Str} {f : Bool} {ws : List Str} (h : blankB w = false) : keepL n f (w :: ws) = if w = meterLine n then keepL n true ws else w :: keepL n false ws := by
  rw [keepL]
  simp only [h, Bool.false_eq_true, if_false]
  by_cases e : w = meterLine n
  · rw [decide_eq_true e, if_pos rfl, if_pos e]
  · rw [decide_eq_false e, if_neg (by decide), if_neg e]
theorem keep_rows (n : Str) (f : Bool) (ws : List Str) : ∀ rows : List Row, keepL n f (rows.map rowLine ++ ws) = (if f = true then [] else rows.map rowLine) ++ keepL n f ws
  | [] => by cases f <;> rfl
  | r :: rs => by
    rw [List.map_cons, List.cons_append, keep_blank (blank_row r), keep_rows n f ws rs]
    cases f <;> simp
theorem keep_loads (n : Str) : ∀ (ls : List (Str × Rat)) (f : Bool), keepL n f (ls.map loadLine) = ls.map loadLine
  | [], f => rfl
  | l :: ls, f => by
    rw [List.map_cons, keep_mark (blank_load l), if_neg (load_ne_meter l n), keep_loads n ls]
theorem keep_meters (n : Str) (ls : List (Str × Rat)) : ∀ (ms : List (Str × List Row)) (f : Bool), keepL n f (ms.flatMap meterLines ++ ls.map loadLine) = (ms.filter fun m => decide (m.1 ≠ n)).flatMap meterLines ++ ls.map loadLine
  | [], f => keep_loads n ls f
  | m :: ms, f => by
    rw [List.flatMap_cons]
    show keepL n f ((meterLine m.1 :: m.2.map rowLine ++ ms.flatMap meterLines) ++ ls.map loadLine) = _
    rw [List.cons_append, List.cons_append, keep_mark (blank_meter m.1), List.append_assoc]
    by_cases h : m.1 = n
    · rw [if_pos (by rw [h]), keep_rows, if_pos rfl, List.nil_append, keep_meters n ls ms, List.filter_cons_of_neg (by simp [h])]
    · rw [if_neg (fun e => h (meterLine_inj e)), keep_rows, if_neg (by decide), keep_meters n ls ms, List.filter_cons_of_pos (by simp [h]), List.flatMap_cons]
      show meterLine m.1 :: (m.2.map rowLine ++ _) = (meterLine m.1 :: m.2.map rowLine) ++ _ ++ _
      simp only [List.cons_append, List.append_assoc]
/-- the bench without one of its meters -/
def lessL (L : Lore) (n : Str) : Lore := { L with meters := L.meters.filter fun m => decide (m.1 ≠ n) }
theorem keep_lines (L : Lore) (n : Str) : keepL n false (lines L) = lines (lessL L n) := by
  unfold lines
  show keepL n false (spreadLines L.spread ++ _) = spreadLines L.spread ++ _
  unfold spreadLines
  split
  · rw [List.singleton_append, keep_mark (blank_spread _), if_neg (spread_ne_meter _ _), keep_meters]
    rfl
  · rw [List.nil_append, keep_meters]
    rfl
theorem LoreOk.less {L : Lore} (ok : LoreOk L) {n : Str} (h2 : 2 ≤ L.meters.length) : LoreOk (lessL L n) := by
  have hle : (L.meters.filter fun m => decide (m.1 ≠ n)).length ≤ L.meters.length := List.length_filter_le _ _
  refine ⟨ok.spread, ?_, Nat.le_trans hle ok.m3, fun m hm => ok.mn m ((List.mem_filter.mp hm).1), ?_, fun m hm => ok.rows m ((List.mem_filter.mp hm).1), ok.l2, ok.ln, ok.ld⟩
  · have hnd := ok.md
    have : ∀ ms : List (Str × List Row), (ms.map (·.1)).Nodup → ms.length ≤ (ms.filter fun m => decide (m.1 ≠ n)).length + 1 := by
      intro ms
      induction ms with
      | nil => intro _; exact Nat.zero_le _
      | cons m ms ih =>
        intro h
        rw [List.map_cons, List.nodup_cons] at h
        by_cases e : m.1 = n
        · rw [List.filter_cons_of_neg (by simp [e])]
          have : (ms.filter fun m => decide (m.1 ≠ n)) = ms := List.filter_eq_self.mpr fun x hx => decide_eq_true fun z => h.1 (by rw [e, ← z]; exact List.mem_map.mpr ⟨x, hx, rfl⟩)
          rw [this]
          exact Nat.le_refl _
        · rw [List.filter_cons_of_pos (by simp [e]), List.length_cons, List.length_cons]
          have := ih h.2
          omega
    have := this L.meters hnd
    show 1 ≤ (L.meters.filter fun m => decide (m.1 ≠ n)).length
    omega
  · exact ok.md.sublist ((List.filter_sublist (p := fun m => decide (m.1 ≠ n)) (l := L.meters)).map _)
def spWithout (K : PySem.W.Frag) (C : Addr) : Sp := fun vs H Q _ => ∃ (b : Addr) (L : Lore) (n : Str), vs = [.ref b, .str n] ∧ BenAt K C H b L ∧ LoreOk L ∧ n ∈ L.meters.map (·.1) ∧ 2 ≤ L.meters.length ∧ ∀ p H', Same H H' → H p = none → BenAt K C H' p (lessL L n) → Q (.ref p) H'
def spSpreadBy (K : PySem.W.Frag) (C : Addr) : Sp := fun vs H Q _ => ∃ (b : Addr) (L : Lore) (s : Nat), vs = [.ref b, .int s] ∧ BenAt K C H b L ∧ LoreOk L ∧ s ≤ 20 ∧ ∀ p H', Same H H' → H p = none → BenAt K C H' p { L with spread := s } → Q (.ref p) H'
/-- the flag and the lines that stay, line by line -/
def keepF (n : Str) : Bool → List Str → Bool
  | f, [] => f
  | f, w :: ws => keepF n (if blankB w then f else decide (w = meterLine n)) ws
theorem keepL_app (n : Str) : ∀ (f : Bool) (ws : List Str) (w : Str), keepL n f (ws ++ [w]) = keepL n f ws ++ (if (if blankB w then keepF n f ws else decide (w = meterLine n)) = true then [] else [w]) ∧ keepF n f (ws ++ [w]) = (if blankB w then keepF n f ws else decide (w = meterLine n))
  | f, [], w => by
    constructor
    · rw [List.nil_append, keepL]
      simp only [keepL, keepF, List.nil_append]
      rfl
    · rfl
  | f, v :: ws, w => by
    obtain ⟨h1, h2⟩ := keepL_app n (if blankB v then f else decide (v = meterLine n)) ws w
    constructor
    · rw [List.cons_append, keepL, h1]
      conv => rhs; rw [keepL]
      rw [keepF]
      generalize (if blankB v = true then f else decide (v = meterLine n)) = f'
      cases f' with
      | true => rfl
      | false => rfl
    · rw [List.cons_append, keepF, h2, keepF]
theorem starts_blank (w : Str) : Txt.startswith w " " = blankB w := by
  rw [starts_tl]
  unfold blankB
  show ((tl w).take 1 == [32]) = _
  cases h : tl w with
  | nil => rfl
  | cons c r =>
    show ([c] == [32]) = decide (some c = some 32)
    by_cases e : c = 32
    · subst e; rfl
    · rw [beq_eq_false_iff_ne.mpr (fun z => e (List.head_eq_of_cons_eq z)), decide_eq_false (fun z => e (Option.some.inj z))]
theorem keepL_len (n : Str) : ∀ (ws : List Str) (f : Bool), (keepL n f ws).length ≤ ws.length
  | [], _ => Nat.le_refl _
  | w :: ws, f => by
    rw [keepL]
    generalize (if blankB w = true then f else decide (w = meterLine n)) = f'
    have ih := keepL_len n ws f'
    cases f' with
    | true => exact Nat.le_succ_of_le ih
    | false => exact Nat.succ_le_succ ih
theorem told_meter (n : Str) : Str.empty ++ ("meter " : Str) ++ n = meterLine n := ext_tl (by rw [tl_append, tl_append, tl_meterLine]; rfl)
theorem told_spread (n : Nat) : Str.empty ++ ("spread " : Str) ++ Str.ofString (toString (n : Int)) = spreadLine n := ext_tl (by
  rw [tl_append, tl_append, tl_spreadLine]
  rfl)
theorem lines_spread (L : Lore) {s : Nat} (h : s ≠ 0) : lines { L with spread := s } = spreadLine s :: lines { L with spread := 0 } := by
  unfold lines spreadLines
  simp only [show s > 0 by omega, if_true, List.singleton_append, Nat.lt_irrefl, if_false, List.nil_append, gt_iff_lt]
end My

/-! own layer: names that begin one another (k76) -/
namespace My
open PySem PySem.Spec PyProof.Rows L2 TL
/-! ### list of a text: its signs -/
def signsV (x : Str) : List V := x.cps.toList.map fun c => V.str ⟨#[c]⟩
def rListS : List V → Hp → VK → Prop := fun xs H Q => ∃ x : Str, xs = [.str x] ∧ x.cps.size ≤ sizeLine ∧ ∀ l, H l = none → Q (.ref l) (upd H l (.lst (signsV x)))
theorem vals_signs {x : Str} : ∀ {cs : List Nat} {us : List Value}, (∀ (i c : Nat), cs[i]? = some c → ∃ (u : Value) (t : Tok), us[i]? = some u ∧ u = Value.str ⟨#[c]⟩ t) → us.length = cs.length → Vals (cs.map fun c => V.str ⟨#[c]⟩) us
  | [], us, _, hl => by
    rw [List.length_eq_zero_iff.mp hl]
    exact .nil
  | c :: cs, [], _, hl => by cases hl
  | c :: cs, u :: us, h, hl => by
    obtain ⟨u', t, e1, e2⟩ := h 0 c rfl
    simp only [List.getElem?_cons_zero, Option.some.injEq] at e1
    subst e1
    exact .cons ⟨t, e2⟩ (vals_signs (x := x) (fun i c' hc => by simpa using h (i + 1) c' (by simpa using hc)) (by simpa using hl))
theorem cr_listS {X : Cx} (hc : X.calm = true) : CallR X (.type "list") rListS := by
  intro pins s σ H xs us Q I r h
  obtain ⟨x, rfl, hz, q⟩ := h
  obtain ⟨u, rfl, rx⟩ := vals1 r
  obtain ⟨t, rfl⟩ := rx
  refine call_list_str (I.ok.hd hc) x t (fun h' tk acc' c' kp e it => ?_) hz
  have hv : Vals (signsV x) acc'.toList := by
    refine vals_signs (x := x) (fun i c hc => ?_) (by rw [Array.length_toList, it.1, Array.length_toList])
    have hi : i < acc'.size := by rw [it.1]; have := (List.getElem?_eq_some_iff.mp hc).1; rwa [Array.length_toList] at this
    obtain ⟨c2, u2, h1, h2⟩ := it.2 i acc'[i] (Array.getElem?_eq_getElem hi)
    rw [Array.getElem?_toList, h1] at hc
    cases hc
    exact ⟨_, u2, by rw [Array.getElem?_toList, Array.getElem?_eq_getElem hi], h2⟩
  have hl : (signsV x).length ≤ sizeLine := by unfold signsV; rw [List.length_map, Array.length_toList]; exact hz
  exact ⟨.ref s.heap.objs.size, _, I.laid (t' := tk) kp (Nat.le_refl _) (show ObjOk X.prog X.w _ h' _ (.lst (signsV x)) from ⟨hl, acc'.toList, c', hv, by rw [Array.toArray_toList]; exact e⟩), rfl, q _ (I.hok.fresh (Nat.le_refl _))⟩
theorem i_listS {H : Hp} {Q : VK} {x : Str} {ws : List Str} (hz : x.cps.size ≤ sizeLine) (e : signsV x = ws.map V.str) (h : ∀ p H1, Same H H1 → H p = none → H1 p = some (.lst (ws.map V.str)) → Q (.ref p) H1) : rListS [.str x] H Q := ⟨x, rfl, hz, by rw [e]; exact i_new h⟩
/-! ### two rows of a meter -/
def rowA (w : Str) (n : Nat) : Row := ⟨w, (n : Rat), ((1 : Nat) : Rat), none, some ((n + 9 : Nat) : Rat)⟩
def rowB (w : Str) (n : Nat) : Row := ⟨w, ((n + 3 : Nat) : Rat), ((2 : Nat) : Rat), some ((n + 1 : Nat) : Rat), none⟩
theorem rT_nat (n : Nat) : rT (n : Rat) = nS n := by
  unfold rT
  rw [if_pos (Rat.den_natCast n), Rat.num_natCast]
  rfl
theorem line_a (w : Str) (n : Nat) : ("  range " : Str) ++ w ++ (" load " : Str) ++ nS n ++ (" unit 1 up " : Str) ++ nS (n + 9) = rowLine (rowA w n) := ext_tl (by
  have e1 : tl (" unit 1 up " : Str) = tl " unit " ++ (tl (nS 1) ++ tl " up ") := by rw [tl_nS]; decide +kernel
  rw [rowLine_told]
  unfold rowHead rowA
  simp only [rT_nat, optTx, tl_append, e1, List.append_assoc]
  rfl)
theorem line_b (w : Str) (n : Nat) : ("  range " : Str) ++ w ++ (" load " : Str) ++ nS (n + 3) ++ (" unit 2 down " : Str) ++ nS (n + 1) = rowLine (rowB w n) := ext_tl (by
  have e1 : tl (" unit 2 down " : Str) = tl " unit " ++ (tl (nS 2) ++ tl " down ") := by rw [tl_nS]; decide +kernel
  have e2 : tl ("" : Str) = [] := rfl
  rw [rowLine_told]
  unfold rowHead rowB
  simp only [rT_nat, optTx, tl_append, e1, e2, List.append_assoc, List.append_nil])
theorem ratOk_nat {n : Nat} (h : n ≤ 9999) : RatOk (n : Rat) := ⟨by exact_mod_cast Nat.zero_le n, by rw [Rat.num_natCast]; omega, by rw [Rat.den_natCast]; decide⟩
theorem rowsAB {a b : Str} (ha : NmOk a) (hb : NmOk b) (hne : a ≠ b) {n : Nat} (hn : n ≤ 100) : RowsOk [] [rowA a n, rowB b n] := by
  have pos : ∀ k : Nat, 0 < k → (0 : Rat) < (k : Rat) := fun k h => by exact_mod_cast h
  refine ⟨⟨ha, fun x hx => (by cases hx), ratOk_nat (by omega), ratOk_nat (by decide), pos _ (by decide), ⟨fun _ => rfl, fun z => absurd rfl z⟩, fun q e => ?_, fun x hx => (by cases hx)⟩, fun _ => (by intro z; cases z), fun z => (by cases z), ⟨hb, fun x hx => ?_, ratOk_nat (by omega), ratOk_nat (by decide), pos _ (by decide), ⟨fun z => (by cases z), fun _ => ⟨_, rfl, ratOk_nat (by omega)⟩⟩, fun q e => (by cases e), fun x hx => ?_⟩, fun z => absurd rfl z, fun _ => rfl, trivial⟩
  · cases e; exact ⟨ratOk_nat (by omega), pos _ (by omega)⟩
  · rw [List.nil_append] at hx
    rw [List.mem_singleton.mp hx]; exact hne
  · rw [List.nil_append] at hx
    cases hx
    refine ⟨_, rfl, ratOk_nat (by omega), fun q e => ?_, fun q e => (by cases e)⟩
    cases e
    exact_mod_cast (by omega : n + 1 ≤ n + 9)
/-! ### promises -/
def spMLines (K : PySem.W.Frag) : Sp := fun vs H Q _ => ∃ (m a b : Str) (n : Nat), vs = [.str m, .str a, .str b, .int n] ∧ m.length ≤ 8 ∧ a.length ≤ 8 ∧ b.length ≤ 8 ∧ n ≤ 100 ∧
  ∀ p H', Same H H' → H p = none → H' p = some (.lst ((meterLines (m, [rowA a n, rowB b n])).map V.str)) → Q (.ref p) H'
/-! ### a comprehension over enumerate -/
theorem lcq_enum {K : PySem.W.Frag} {a : Addr} {xs : List V} {g : TG} {te : TE} {vs : List Nat} {σ : L2.St} {H : Hp} {Q : VK} (Pv : Addr → Nat → Hp → List V → Prop) (h0 : ∀ A H', Same H H' → H A = none → H' A = some (.lst []) → Pv A 0 H' []) (hl : ∀ A i H' acc, H' A = some (.lst acc) → Pv A i H' acc → SqL K H' a xs)
    (hs : ∀ A i x H' T H1 acc, xs[i]? = some x → acc.length = i → H' A = some (.lst acc) → Pv A i H' acc → Same H' H1 → H' T = none → H1 T = some (.tup [.int (i : Nat), x]) → g (.ref T) (wipe σ vs) H1 fun σ2 H2 => wipe σ2 vs = wipe σ vs ∧ te σ2 H2 (TurnP Pv A i))
    (hd : ∀ A H' acc, acc.length = xs.length → H' A = some (.lst acc) → Pv A xs.length H' acc → Q (.ref A) H') : LcQ (Ite K a) g tYes te vs σ H Q := by
  intro A hA
  refine lc_it (G := fun H => SqL K H a xs) walk_enum (fun i H' => ∃ acc, acc.length = i ∧ H' A = some (.lst acc) ∧ Pv A i H' acc) ⟨[], rfl, upd_same, h0 A _ (fun b u e => by rw [upd_ne (ne_of_none e hA)]; exact e) hA upd_same⟩ (fun i H' _ ⟨acc, h1, h2, h3⟩ => hl A i H' acc h2 h3) ?_ (fun H' ⟨acc, h1, h2, h3⟩ => hd A H' acc h1 h2 h3)
  rintro i x H' H1 hi ⟨acc, hal, hA', hP⟩ ⟨T, y, z, rfl, hT, rfl, e1, e2⟩
  cases e1
  exact hs A i z H' T _ acc e2 hal hA' hP (fun b u e => by rw [upd_ne (ne_of_none e hT)]; exact e) hT upd_same
/-! ### what stands on the bench of k76 -/
theorem i_strN {i : Int} {n : Nat} {H : Hp} {Q : VK} (e : i = n) (hz : n ≤ 1000) (h : Q (.str (nS n)) H) : rStrI [.int i] H Q := e ▸ i_strI (Nat.lt_of_le_of_lt hz (Nat.lt_of_lt_of_le (show 1000 < 2 ^ 10 by decide) (Nat.pow_le_pow_right (by decide) (by decide)))) h
def six : List Str := ["a", "b", "m", "n", "s", "t"]
theorem three {α : Type} : ∀ {l : List α}, l.length = 3 → ∃ a b c, l = [a, b, c]
  | [a, b, c], _ => ⟨a, b, c, rfl⟩
theorem two {α : Type} : ∀ {l : List α}, l.length = 2 → ∃ a b, l = [a, b]
  | [a, b], _ => ⟨a, b, rfl⟩
theorem six_ok : ∀ n ∈ six, NmOk n ∧ n.length = 1 := fun n hn => by
  have h := List.all_eq_true.mp (show six.all (fun n => nmB n && decide (n.length = 1)) = true by decide +kernel) n hn
  rw [Bool.and_eq_true] at h
  exact ⟨nmB_ok h.1, of_decide_eq_true h.2⟩
theorem NmOk.app {a b : Str} (ha : NmOk a) (hb : NmOk b) (h : a.length + b.length ≤ 8) : NmOk (a ++ b) := by
  refine ⟨?_, ?_, fun c hc => ?_⟩
  · rw [Str.length_append]; have := ha.lo; omega
  · rw [Str.length_append]; omega
  · rw [tl_append] at hc
    rcases List.mem_append.mp hc with hc | hc
    · exact ha.az c hc
    · exact hb.az c hc
def mets (lo hi : Str) (ns : List Str) : List (Str × List Row) := ns.zipIdx.map fun x => (x.1, [rowA lo (x.2 + 1), rowB hi (x.2 + 1)])
def hnds (hs : List Str) : List (Str × Rat) := hs.zipIdx.map fun x => (x.1, ((x.2 + 5 : Nat) : Rat))
theorem mets_at {lo hi : Str} {ns : List Str} {i : Nat} {n : Str} (h : ns[i]? = some n) : (mets lo hi ns)[i]? = some (n, [rowA lo (i + 1), rowB hi (i + 1)]) := by
  unfold mets
  rw [List.getElem?_map, List.getElem?_zipIdx, h]
  simp
theorem hnds_at {hs : List Str} {i : Nat} {n : Str} (h : hs[i]? = some n) : (hnds hs)[i]? = some (n, ((i + 5 : Nat) : Rat)) := by
  unfold hnds
  rw [List.getElem?_map, List.getElem?_zipIdx, h]
  simp
theorem mets_names (lo hi : Str) (ns : List Str) : (mets lo hi ns).map (·.1) = ns := by
  unfold mets
  rw [List.map_map]
  exact List.zipIdx_map_fst 0 ns
theorem hnds_names (hs : List Str) : (hnds hs).map (·.1) = hs := by
  unfold hnds
  rw [List.map_map]
  exact List.zipIdx_map_fst 0 hs
theorem mets_len (lo hi : Str) (ns : List Str) : (mets lo hi ns).length = ns.length := by unfold mets; rw [List.length_map, List.length_zipIdx]
theorem hnds_len (hs : List Str) : (hnds hs).length = hs.length := by unfold hnds; rw [List.length_map, List.length_zipIdx]
def L76 (lo hi : Str) (ns hs : List Str) : Lore := ⟨3, mets lo hi ns, hnds hs⟩
theorem ok76 {lo hi : Str} {ns hs : List Str} (hlo : NmOk lo) (hhi : NmOk hi) (hne : lo ≠ hi) (hn : ∀ n ∈ ns, NmOk n) (hd : ns.Nodup) (hl : ns.length = 3) (kn : ∀ n ∈ hs, NmOk n) (kd : hs.Nodup) (kl : hs.length = 2) : LoreOk (L76 lo hi ns hs) := by
  refine ⟨(by show 3 ≤ 20; omega), ?_, ?_, fun m hm => ?_, ?_, fun m hm => ?_, ?_, fun l hl => ?_, ?_⟩
  · show 1 ≤ (mets lo hi ns).length; rw [mets_len]; omega
  · show (mets lo hi ns).length ≤ 3; rw [mets_len]; omega
  · have : m.1 ∈ (mets lo hi ns).map (·.1) := List.mem_map.mpr ⟨m, hm, rfl⟩
    rw [mets_names] at this
    exact hn _ this
  · show ((mets lo hi ns).map (·.1)).Nodup; rw [mets_names]; exact hd
  · obtain ⟨x, hx, rfl⟩ := List.mem_map.mp hm
    have hx2 : x.2 < 3 := by
      have := List.snd_lt_of_mem_zipIdx hx
      omega
    exact ⟨by simp, (by show 2 ≤ 4; omega), rowsAB hlo hhi hne (by omega)⟩
  · show (hnds hs).length ≤ 2; rw [hnds_len]; omega
  · have h1 : l.1 ∈ (hnds hs).map (·.1) := List.mem_map.mpr ⟨l, hl, rfl⟩
    rw [hnds_names] at h1
    obtain ⟨x, hx, rfl⟩ := List.mem_map.mp hl
    have hx2 : x.2 < 2 := by
      have := List.snd_lt_of_mem_zipIdx hx
      omega
    exact ⟨kn _ h1, ratOk_nat (by omega)⟩
  · show ((hnds hs).map (·.1)).Nodup; rw [hnds_names]; exact kd
/-- a list of texts at a new place -/
def StrsAt (F : Addr → Prop) (H : Hp) (v : V) (ws : List Str) : Prop := ∃ b, v = .ref b ∧ F b ∧ H b = some (.lst (ws.map V.str))
theorem StrsAt.same {F : Addr → Prop} {H H' : Hp} {v : V} {ws : List Str} (h : StrsAt F H v ws) (S : Same H H') : StrsAt F H' v ws := by
  obtain ⟨b, e, f, h⟩ := h
  exact ⟨b, e, f, S _ _ h⟩
theorem StrsAt.but {F : Addr → Prop} {H H' : Hp} {v : V} {ws : List Str} {d : Addr} (h : StrsAt F H v ws) (hd : ¬ F d) (B : But d H H') : StrsAt F H' v ws := by
  obtain ⟨b, e, f, h⟩ := h
  exact ⟨b, e, f, B _ _ (fun z => hd (z ▸ f)) h⟩
def tells76 (ms : List (Str × List Row)) : List (Str × List Str) := ms.map fun m => (m.1, meterLines m)
/-! ### one and the same data -/
theorem i_neSame {K : PySem.W.Frag} {H : Hp} {Q : VK} {x y : V} {d : PyData} (hx : Dp K H x d) (hy : Dp K H y d) (sd : SeqAt.shaped d = true) (q : Q (.bl false) H) : rNeD K x y H Q := ⟨d, d, hx, hy, sd, sd, by
  rw [SeqAt.eqv_refl d (SeqAt.canLay_of_shaped sd)]; exact q⟩
theorem shaped_names {ns : List Str} (h : ∀ n ∈ ns, NmOk n) : SeqAt.shaped (namesD ns) = true := shaped_strs fun n hn => (h n hn).w
theorem shaped_rat (q : Rat) : SeqAt.shaped (ratD q) = true := rfl
theorem shaped_head {n : Str} (h : NmOk n) (q : Rat) : SeqAt.shaped (.tuple [.str n, ratD q]) = true := by
  refine shaped_tup fun d hd => ?_
  simp only [List.mem_cons, List.not_mem_nil, or_false] at hd
  rcases hd with rfl | rfl
  · exact ⟨SeqAt.canLay_of_shaped (d := .str n) (by
      have := shaped_names (ns := [n]) fun x hx => by rw [List.mem_singleton.mp hx]; exact h
      unfold SeqAt.shaped at this ⊢
      rw [Bool.and_eq_true] at this ⊢
      refine ⟨?_, rfl⟩
      have h2 : (PyData.canLay0 (.str n) && true) = true := this.1
      rwa [Bool.and_true] at h2), Nat.zero_le _⟩
  · exact ⟨rfl, by show 1 ≤ 60; omega⟩
/-! ### joined lines -/
theorem LoreOk.joins {L : Lore} (ok : LoreOk L) : ((lines L).map (·.length)).sum + (lines L).length * ("\n" : Str).length ≤ 16777216 := by
  have hf := ok.few
  have hle : ((lines L).map (·.length)).sum ≤ 120 * (lines L).length := by
    have := ok.le
    generalize lines L = ws at this
    induction ws with
    | nil => exact Nat.le_refl _
    | cons w ws ih =>
      have h1 := this w (List.mem_cons_self)
      have h2 := ih fun x hx => this x (List.mem_cons_of_mem _ hx)
      simp only [List.map_cons, List.sum_cons, List.length_cons]
      omega
  have e1 : ("\n" : Str).length = 1 := rfl
  rw [e1]
  omega
theorem LoreOk.spr {L : Lore} (ok : LoreOk L) {s : Nat} (h : s ≤ 20) : LoreOk { L with spread := s } := ⟨h, ok.m1, ok.m3, ok.mn, ok.md, ok.rows, ok.l2, ok.ln, ok.ld⟩
theorem spread3 : spreadLine 3 = ("spread 3" : Str) := ext_tl (by rw [tl_spreadLine, tl_nS]; decide +kernel)
theorem lines76 (lo hi : Str) (ns hs : List Str) : lines (L76 lo hi ns hs) = ("spread 3" : Str) :: lines { L76 lo hi ns hs with spread := 0 } := by
  rw [← spread3]
  exact lines_spread (L76 lo hi ns hs) (s := 3) (by decide)
theorem lines0 (lo hi x0 x1 x2 : Str) (hs : List Str) : lines { L76 lo hi [x0, x1, x2] hs with spread := 0 } = meterLines (x0, [rowA lo 1, rowB hi 1]) ++ meterLines (x1, [rowA lo 2, rowB hi 2]) ++ meterLines (x2, [rowA lo 3, rowB hi 3]) ++ (hnds hs).map loadLine := by
  show [] ++ ((meterLines (x0, [rowA lo 1, rowB hi 1]) ++ (meterLines (x1, [rowA lo 2, rowB hi 2]) ++ (meterLines (x2, [rowA lo 3, rowB hi 3]) ++ []))) ++ (hnds hs).map loadLine) = _
  simp only [List.nil_append, List.append_nil, List.append_assoc]
/-! ### asking the bench of k76 -/
theorem i_bMeth {K : PySem.W.Frag} {C b : Addr} {H : Hp} {Q : VK} {L : Lore} {sp : Sp} {E : XK} {dvs : List V} {m : Str} {t : TA} {σ : L2.St} (h : BenAt K C H b L)
    (hm : ¬ m = "_text" ∧ ¬ m = "_spread" ∧ ¬ m = "_ranges" ∧ ¬ m = "_loads" ∧ ¬ m = "_settings") (q : t σ H fun vs H2 => sp (.ref b :: (vs ++ dvs)) H2 Q E) : MethQ C m sp dvs E t σ (.ref b) H Q := by
  obtain ⟨dx, rd, ld, st, kvs, lks, h1, _⟩ := h
  exact ⟨b, dx, _, rfl, h1, benF_no hm.1 hm.2.1 hm.2.2.1 hm.2.2.2.1 hm.2.2.2.2, q⟩
theorem less76 (lo hi : Str) (ns hs : List Str) (nm : Str) : lines (lessL (L76 lo hi ns hs) nm) = [("spread 3" : Str)] ++ ((tells76 (mets lo hi ns)).filter fun t => decide (t.1 ≠ nm)).flatMap (·.2) ++ (hnds hs).map loadLine := by
  rw [← spread3]
  unfold lines tells76
  rw [List.filter_map, List.flatMap_map]
  show [spreadLine 3] ++ (((mets lo hi ns).filter fun m => decide (m.1 ≠ nm)).flatMap meterLines ++ _) = _
  rw [List.append_assoc]
  rfl
theorem rat_nat (n : Nat) : rat (n : Rat) = [.int n, .int 1] := by
  unfold rat
  rw [Rat.num_natCast, Rat.den_natCast]
  rfl
theorem inB_first {L : Lore} (ok : LoreOk L) : InB L (firstOf L, []) := by
  refine ⟨by show (firstOf L).length = _; unfold firstOf; rw [List.length_map], fun i m hm => ?_, List.nil_sublist _⟩
  obtain ⟨hne, _, _⟩ := ok.rows m (List.mem_of_getElem? hm)
  cases hr : m.2 with
  | nil => exact absurd hr hne
  | cons r rs =>
    refine ⟨r, List.mem_cons_self, ?_⟩
    show (firstOf L)[i]? = some r.n
    unfold firstOf
    rw [List.getElem?_map, hm, Option.map_some, hr]
    rfl
theorem set_map {ns : List Str} (hd : ns.Nodup) {i : Nat} {nm : Str} (h : ns[i]? = some nm) (u v : Str) : (ns.map fun _ => u).set i v = ns.map fun o => if o = nm then v else u := by
  obtain ⟨hi, e⟩ := List.getElem?_eq_some_iff.mp h
  refine List.ext_getElem (by simp) fun j h1 h2 => ?_
  rw [List.length_map] at h2
  rw [List.getElem_set, List.getElem_map, List.getElem_map]
  by_cases hij : i = j
  · subst hij
    rw [if_pos rfl, if_pos e]
  · rw [if_neg hij, if_neg fun z => hij ((List.getElem_inj hd).mp (e.trans z.symm))]
theorem turn_none {L : Lore} (ok : LoreOk L) {nm : Str} (h : nm ∈ L.loads.map (·.1)) : turnS L [] nm = [nm] := by
  unfold turnS
  have hd := ok.ld
  generalize L.loads.map (·.1) = hs at h hd
  induction hs with
  | nil => cases h
  | cons x xs ih =>
    rw [List.nodup_cons] at hd
    by_cases e : x = nm
    · subst e
      rw [List.filter_cons_of_pos (by simp)]
      rw [List.filter_eq_nil_iff.mpr fun y hy => by simp; exact fun z => hd.1 (z ▸ hy)]
    · rw [List.filter_cons_of_neg (by simp [e])]
      exact ih ((List.mem_cons.mp h).resolve_left fun z => e z.symm) hd.2
theorem shaped_set {s : List Str × List Str} (h1 : ∀ n ∈ s.1, NmOk n) (h2 : ∀ n ∈ s.2, NmOk n) : SeqAt.shaped (settingD s) = true := shaped_setting ⟨fun n hn => (h1 n hn).w, fun n hn => (h2 n hn).w⟩
end My

/-! own layer: sets of nested keys (tuples of tuples of names), and sorted of them -/
namespace My
open PySem PySem.Spec PyProof.Rows L2
abbrev NK (P : Program) (w : World) (h : Heap) (k : NestedKey) (b : Addr) : Prop := (nestedKind P w).is h k b
abbrev AK : Type := Addr × NestedKey
section
variable {P : Program} {w : World} {A : Around}
variable {E : Value → Shared → Prop}
/-! ### what is asked of a key: it is of no class statement; its hash is by value or not -/
mutual
theorem nk_class : ∀ (k : NestedKey) (v : Value) (n : Nat) (s : Shared) (Q : Bool → Shared → Prop), NestedIs s.heap k v → k.depth ≤ n → Q false s → wpAny (model P w) A (ofAClassStatement n v) Q E s
  | .none, _, n, s, Q, x, _, q => by cases x; cases n <;> exact wpAny_pure q
  | .num i, _, n, s, Q, x, _, q => by cases x <;> cases n <;> exact wpAny_pure q
  | .text y, _, n, s, Q, x, _, q => by cases x; cases n <;> exact wpAny_pure q
  | .tup ks, _, n, s, Q, x, hn, q => by
    cases x with
    | @tup a o vs m _ ho hc hd hk =>
      cases n with
      | zero => simp only [NestedKey.depth] at hn; omega
      | succ n =>
        simp only [NestedKey.depth] at hn
        have hall := nk_classes ks vs.toList n s hk (by omega)
        unfold ofAClassStatement
        refine wpAny_bind (wpAny_typeOf ⟨o, ho, hc⟩ ?_)
        dsimp only
        simp only [show (("tuple" : String) == "tuple") = true by decide, if_true]
        try refine wpAny_bind (wpAny_pure ?_)
        try simp only [Bool.not_true, Bool.false_eq_true, if_false]
        refine wpAny_bind (wpAny_seqItems ho hd ?_)
        dsimp only
        refine wpAny_bind ?_
        show wpAny _ _ (forIn vs _ _) _ _ s
        rw [← Array.forIn_toList]
        refine wpAny_forIn_list _ (fun l r s1 => r.1 = none ∧ s1 = s ∧ ∀ v ∈ l, ∀ Q : Bool → Shared → Prop, Q false s → wpAny (model P w) A (ofAClassStatement n v) Q E s) _ ?_ ?_ _ _ ⟨rfl, rfl, hall⟩
        · rintro v l r s1 ⟨hr, rfl, h⟩
          refine wpAny_bind (h v List.mem_cons_self _ ?_)
          simp only [Bool.false_eq_true, if_false]
          exact wpAny_pure ⟨rfl, rfl, fun u hu => h u (List.mem_cons_of_mem _ hu)⟩
        · rintro ⟨r1, r2⟩ s1 ⟨hr, rfl, _⟩
          simp only at hr
          subst hr
          exact wpAny_pure q
theorem nk_classes : ∀ (ks : List NestedKey) (vs : List Value) (n : Nat) (s : Shared), NestedAll s.heap ks vs → NestedKey.depthAll ks ≤ n → ∀ v ∈ vs, ∀ Q : Bool → Shared → Prop, Q false s → wpAny (model P w) A (ofAClassStatement n v) Q E s
  | [], _, n, s, x, _, v, hv, Q, q => by cases x; cases hv
  | k :: ks, _, n, s, x, hn, v, hv, Q, q => by
    cases x with
    | cons x1 x2 =>
      simp only [NestedKey.depthAll] at hn
      rcases List.mem_cons.mp hv with e | hv
      · rw [e]; exact nk_class k _ n s Q x1 (by omega) q
      · exact nk_classes ks _ n s x2 (by omega) v hv Q q
end
mutual
theorem nk_byval : ∀ (k : NestedKey) (v : Value) (n : Nat) (s : Shared) (Q : Bool → Shared → Prop), NestedIs s.heap k v → (∀ b, Q b s) → wpAny (model P w) A (hashByValue n v) Q E s
  | .none, _, n, s, Q, x, q => by cases x; cases n <;> exact wpAny_pure (q _)
  | .num i, _, n, s, Q, x, q => by cases x <;> cases n <;> exact wpAny_pure (q _)
  | .text y, _, n, s, Q, x, q => by cases x; cases n <;> exact wpAny_pure (q _)
  | .tup ks, _, n, s, Q, x, q => by
    cases x with
    | @tup a o vs m _ ho hc hd hk =>
      cases n with
      | zero => exact wpAny_pure (q _)
      | succ n =>
        have hall := nk_byvals ks vs.toList n s hk
        unfold hashByValue
        refine wpAny_bind (wpAny_specialOf (T := "tuple") ⟨o, ho, hc⟩ F.slot_tuple_hash.lookup ?_)
        show wpAny _ _ (seqItems? (.ref a) >>= _) _ _ s
        refine wpAny_bind (wpAny_seqItems ho hd ?_)
        refine wpAny_bind ?_
        show wpAny _ _ (forIn vs _ _) _ _ s
        rw [← Array.forIn_toList]
        refine wpAny_forIn_list _ (fun l r s1 => r.1 = none ∧ s1 = s ∧ ∀ v ∈ l, ∀ Q : Bool → Shared → Prop, (∀ b, Q b s) → wpAny (model P w) A (hashByValue n v) Q E s) _ ?_ ?_ _ _ ⟨rfl, rfl, hall⟩
        · rintro v l r s1 ⟨hr, rfl, h⟩
          refine wpAny_bind (h v List.mem_cons_self _ fun b => ?_)
          cases b with
          | true =>
            simp only [Bool.not_true, Bool.false_eq_true, if_false]
            exact wpAny_pure ⟨rfl, rfl, fun u hu => h u (List.mem_cons_of_mem _ hu)⟩
          | false =>
            simp only [Bool.not_false, if_true]
            exact wpAny_pure (wpAny_pure (q _))
        · rintro ⟨r1, r2⟩ s1 ⟨hr, rfl, _⟩
          simp only at hr
          subst hr
          exact wpAny_pure (q _)
theorem nk_byvals : ∀ (ks : List NestedKey) (vs : List Value) (n : Nat) (s : Shared), NestedAll s.heap ks vs → ∀ v ∈ vs, ∀ Q : Bool → Shared → Prop, (∀ b, Q b s) → wpAny (model P w) A (hashByValue n v) Q E s
  | [], _, n, s, x, v, hv, Q, q => by cases x; cases hv
  | k :: ks, _, n, s, x, v, hv, Q, q => by
    cases x with
    | cons x1 x2 =>
      rcases List.mem_cons.mp hv with e | hv
      · rw [e]; exact nk_byval k _ n s Q x1 q
      · exact nk_byvals ks _ n s x2 v hv Q q
end
/-- a search among keys shows nothing -/
theorem nk_unseen {s : Shared} {k : NestedKey} {b : Addr} {Q : Bool → Shared → Prop} (hb : NK P w s.heap k b) {ys : List Value} (hy : ∀ y ∈ ys, ∃ k' c, y = Value.ref c ∧ NK P w s.heap k' c) (q : Q false s) :
    wpAny (model P w) A (searchCouldBeSeen (.ref b) ys) Q E s := by
  unfold searchCouldBeSeen
  refine wpAny_bind ?_
  refine wpAny_forIn_list _ (fun l r s1 => r.1 = none ∧ s1 = s ∧ ∀ y ∈ l, ∃ k' c, y = Value.ref c ∧ NK P w s.heap k' c) _ ?_ ?_ _ _ ⟨rfl, rfl, hy⟩
  · rintro v l r s1 ⟨hr, rfl, h⟩
    obtain ⟨k', c, rfl, hc⟩ := h v List.mem_cons_self
    have hl : ∀ y ∈ l, ∃ k' c, y = Value.ref c ∧ NK P w s1.heap k' c := fun u hu => h u (List.mem_cons_of_mem _ hu)
    dsimp only
    by_cases e : (b == c || (carriedByValue (.ref b) && carriedByValue (.ref c))) = true
    · exact wp_if_pos e (wpAny_pure ⟨rfl, rfl, hl⟩)
    · refine wp_if_neg e ?_
      refine wpAny_bind ((nestedKind P w).quiet hb ?_)
      simp only [Bool.not_true, Bool.false_eq_true, if_false]
      refine wpAny_bind ((nestedKind P w).quiet hc ?_)
      simp only [Bool.not_true, Bool.false_eq_true, if_false]
      refine wpAny_bind (nk_class _ _ 8 _ _ hb.1 hb.2 ?_)
      simp only [Bool.false_eq_true, if_false]
      refine wpAny_bind (nk_class _ _ 8 _ _ hc.1 hc.2 ?_)
      simp only [Bool.false_eq_true, if_false]
      exact wpAny_pure ⟨rfl, rfl, hl⟩
  · rintro ⟨r1, r2⟩ s1 ⟨hr, rfl, _⟩
    simp only at hr
    subst hr
    exact wpAny_pure q
end
/-! ### the set, as the heap holds it -/
def rowK (w : World) (p : AK) : Int × Value := (p.2.hash w, Value.ref p.1)
abbrev hsK (w : World) (L : List AK) : List Int := L.map fun p => p.2.hash w
structure NSet (P : Program) (w : World) (h : Heap) (a : Addr) (L : List AK) (es : Array (Int × Value)) (ep : Nat) (t : SetTable) : Prop where
  at_ : ∃ o, h.get? a = some o ∧ o.ExactSet ∧ o.data = .set es ep t
  ent : es.toList = L.map (rowK w)
  tab : TabOk t (hsK w L)
  nd : (L.map (·.2)).Nodup
  key : ∀ p ∈ L, NK P w h p.2 p.1
  led : w.params.followText "set-order" = true ∨ t.led = true
  room : L.length * 5 < t.mask * 3
  few : L.length < 64
section
variable {P : Program} {w : World} {A : Around} {s : Shared}
variable {E : Value → Shared → Prop} {a : Addr} {L : List AK} {es : Array (Int × Value)} {ep : Nat} {t : SetTable}
theorem ent_size (h : es.toList = L.map (rowK w)) : es.size = L.length := by
  rw [← Array.length_toList, h, List.length_map]
theorem ent_at (h : es.toList = L.map (rowK w)) {i : Nat} {p : AK} (hp : L[i]? = some p) : es[i]? = some (p.2.hash w, Value.ref p.1) := by
  rw [← Array.getElem?_toList, h, List.getElem?_map, hp]
  rfl
theorem fits_of (hs : es.size = L.length) (hd : t.dummies = #[]) (hp : t.place.size = es.size) (hm : L.length ≤ t.mask) : t.fits es.size = true := by
  unfold SetTable.fits SetTable.fill
  rw [hd, Bool.and_eq_true, beq_iff_eq, decide_eq_true_eq]
  exact ⟨hp, by show t.place.size + 0 ≤ t.mask; omega⟩
theorem NSet.place (R : NSet P w s.heap a L es ep t) : t.place.size = L.length := by
  have := R.tab.sz
  rwa [List.length_map] at this
theorem NSet.fit (R : NSet P w s.heap a L es ep t) : t.fits es.size = true := by
  have h1 := R.place
  have h2 := ent_size R.ent
  have h3 := R.room
  exact fits_of h2 R.tab.dm (by omega) (by omega)
/-- the c-th step of a search -/
abbrev prK (m : Nat) (h : Int) (c : Nat) : SetTable.Probe := nth m (runAt m (SetTable.bits h % (m + 1)) (SetTable.bits h)) c
theorem nth_dummy (m : Nat) : ∀ (c : Nat) (p : SetTable.Probe), p.dummy = none → (nth m p c).dummy = none
  | 0, _, h => h
  | c + 1, p, h => nth_dummy m c (adv m p) (by unfold adv; split <;> exact h)
theorem prK_add (m : Nat) (h : Int) (c q : Nat) : nth m (prK m h c) q = prK m h (c + q) := (nth_add m c _ q).symm
theorem ns_from (R : NSet P w s.heap a L es ep t) {x : Addr} {k : NestedKey} (hx : NK P w s.heap k x) (hu : A.units + 8 < cLine) {h : Int} (eh : k.hash w = h) {K : Nat} (hf : K < 10 * SetTable.turns t.mask)
    (hK : way t.mask h K ∉ t.place.toList) (hb : ∀ c, c < K → way t.mask h c ∈ t.place.toList) {Q : SetFound → Shared → Prop}
    (yes : k ∈ L.map (·.2) → Q (.there none) s) (no : k ∉ L.map (·.2) → Q (.free (way t.mask h K) false) s) :
    ∀ (f c : Nat) (st : Option SetTable.Probe), st.getD (t.probeStart h) = prK t.mask h c → c ≤ K → K - c < f →
      (∀ (i : Nat) (p : AK), L[i]? = some p → p.2 = k → ∃ d, c ≤ d ∧ d < K ∧ t.place.toList[i]? = some (way t.mask h d)) → wpAny (model P w) A (setSearchFrom a (.ref x) h true f st) Q E s := by
  intro f
  induction f with
  | zero => intro c st _ _ z; omega
  | succ f ih =>
    intro c st hst hc hfu hre
    obtain ⟨o, ho, hex, hd⟩ := R.at_
    have hgave : ¬ t.gaveWay = true := by
      unfold SetTable.gaveWay
      rw [mask_odd R.tab.mok]
      decide
    rw [setSearchFrom_succ]
    refine wpAny_bind (wpAny_setState_of ho hd R.fit ?_)
    dsimp only
    refine wp_if_neg hgave ?_
    try refine wpAny_bind (wpAny_pure ?_)
    have hash9 : ∀ (i : Nat) (p : AK), L[i]? = some p → (es[i]?.map (·.1)).getD 0 = p.2.hash w := fun i p hp => by
      rw [ent_at R.ent hp]
      rfl
    have ways : ∀ q, (nth t.mask (prK t.mask h c) q).j = way t.mask h (c + q) := fun q => congrArg SetTable.Probe.j (prK_add t.mask h c q)
    have spec := go_spec t R.tab.ris R.tab.dm (fun i => (es[i]?.map (·.1)).getD 0) h (10 * SetTable.turns t.mask) (K - c) (prK t.mask h c) (nth_dummy _ _ _ rfl) (by omega)
      (fun q hq => by rw [ways]; exact hb _ (by omega)) (by rw [ways, show c + (K - c) = K by omega]; exact hK)
    rcases spec with ⟨q, i, hq, hi, _, hno, hpr⟩ | ⟨hno, hpr⟩
    · rw [prK_add, prK_add] at hpr
      rw [ways] at hi
      have hprobe : t.probe (fun i => (es[i]?.map (·.1)).getD 0) h (st.getD (t.probeStart h)) = some (.candidate (way t.mask h (c + q)) i (prK t.mask h (c + (q + 1)))) := by
        rw [hst]
        exact hpr
      rw [hprobe]
      dsimp only
      have hil : i < L.length := by
        have h1 := (List.getElem?_eq_some_iff.mp hi).1
        rw [Array.length_toList, R.place] at h1
        exact h1
      obtain ⟨p, hp⟩ : ∃ p, L[i]? = some p := ⟨_, List.getElem?_eq_getElem hil⟩
      have hpm := List.mem_of_getElem? hp
      have hslot := slot_live R.tab.ris hi
      have passed : p.2 ≠ k → ∀ (i0 : Nat) (p0 : AK), L[i0]? = some p0 → p0.2 = k → ∃ d, c + (q + 1) ≤ d ∧ d < K ∧ t.place.toList[i0]? = some (way t.mask h d) := fun hne i0 p0 h0 hk0 => by
        obtain ⟨d, a1, a2, a3⟩ := hre i0 p0 h0 hk0
        refine ⟨d, ?_, a2, a3⟩
        have n1 : ¬ d < c + q := fun z => hno (d - c) i0 (by omega) (by rw [ways, show c + (d - c) = d by omega]; exact a3) (by rw [hash9 i0 p0 h0, hk0, eh])
        have n2 : d ≠ c + q := fun z => by
          rw [z] at a3
          have s0 := slot_live R.tab.ris a3
          rw [hslot] at s0
          injection s0 with s0
          rw [← s0, hp] at h0
          exact hne ((congrArg Prod.snd (Option.some.inj h0)).trans hk0)
        omega
      have go : wpAny (model P w) A (searchRest a (.ref x) h true f es t (way t.mask h (c + q)) i (prK t.mask h (c + (q + 1)))) Q E s := by
        unfold searchRest
        rw [ent_at R.ent hp]
        dsimp only
        refine wpAny_bind (wpAny_holding ((nestedKind P w).eqBool hu (R.key p hpm) hx ?_))
        refine wpAny_bind (wpAny_setState_of ho hd R.fit ?_)
        dsimp only
        by_cases hkk : p.2 = k
        · exact wp_if_pos (by simp [hkk]) (wpAny_pure (yes (List.mem_map.mpr ⟨p, hpm, hkk⟩)))
        · refine wp_if_neg (by simp [hkk]) ?_
          try refine wpAny_bind (wpAny_pure ?_)
          rw [sameMem]
          dsimp only
          simp only [if_true, hslot, ent_at R.ent hp]
          refine wpAny_bind (wpAny_isSame_ref_self (wpAny_bind (wpAny_pure ?_)))
          simp only [if_true]
          refine wp_if_neg (by simp [hkk]) ?_
          exact ih (c + (q + 1)) _ rfl (by omega) (by omega) (passed hkk)
      by_cases hl : t.led = true
      · refine wp_if_neg (by simp [hl]) ?_
        try refine wpAny_bind (wpAny_pure ?_)
        exact go
      · refine wp_if_pos (by simp [hl]) ?_
        refine wpAny_bind (nk_unseen hx (fun y hy => ?_) ?_)
        · obtain ⟨e, he, rfl⟩ := List.mem_map.mp hy
          have he1 : e ∈ es ∧ e.1 = h := by simpa using he
          have he2 : e ∈ es.toList := by simpa using he1.1
          rw [R.ent] at he2
          obtain ⟨p2, hp2, rfl⟩ := List.mem_map.mp he2
          exact ⟨p2.2, p2.1, rfl, R.key p2 hp2⟩
        · refine wp_if_neg (by decide) ?_
          try refine wpAny_bind (wpAny_pure ?_)
          exact go
    · rw [ways, show c + (K - c) = K by omega] at hpr
      have hprobe : t.probe (fun i => (es[i]?.map (·.1)).getD 0) h (st.getD (t.probeStart h)) = some (.empty (way t.mask h K) none) := by
        rw [hst]
        exact hpr
      rw [hprobe]
      dsimp only
      refine wpAny_pure (no fun hm => ?_)
      obtain ⟨p0, h0, hk0⟩ := List.mem_map.mp hm
      obtain ⟨i0, e0⟩ := List.getElem?_of_mem h0
      obtain ⟨d, a1, a2, a3⟩ := hre i0 p0 e0 hk0
      exact hno (d - c) i0 (by omega) (by rw [ways, show c + (d - c) = d by omega]; exact a3) (by rw [hash9 i0 p0 e0, hk0, eh])
theorem ns_search (R : NSet P w s.heap a L es ep t) {x : Addr} {k : NestedKey} (hx : NK P w s.heap k x) (hu : A.units + 8 < cLine) {Q : SetFound → Shared → Prop}
    (yes : k ∈ L.map (·.2) → Q (.there none) s)
    (no : ∀ K, k ∉ L.map (·.2) → way t.mask (k.hash w) K ∉ t.place.toList → (∀ c, c < K → way t.mask (k.hash w) c ∈ t.place.toList) → Q (.free (way t.mask (k.hash w) K) false) s) :
    wpAny (model P w) A (setSearch a (.ref x) (k.hash w) true) Q E s := by
  have hroom := R.room
  obtain ⟨K, hf, hK, hb⟩ := R.tab.first (by rw [List.length_map]; omega) (k.hash w)
  have hbig : K < 100000 := by
    have : 10 * SetTable.turns t.mask ≤ 1420 := by
      unfold SetTable.turns
      rcases R.tab.mok with e | e | e <;> omega
    omega
  unfold setSearch
  refine ns_from R hx hu rfl hf hK hb yes (fun hn => no K hn hK hb) 100000 0 none rfl (Nat.zero_le _) (by omega) fun i p hp hk => ?_
  have hil : i < t.place.toList.length := by
    rw [Array.length_toList, R.place]
    exact (List.getElem?_eq_some_iff.mp hp).1
  have hj := List.getElem?_eq_getElem hil
  obtain ⟨c, hc, e⟩ := R.tab.before (h := k.hash w) hK (by rw [List.getElem?_map, hp, ← hk]; rfl) hj
  exact ⟨c, Nat.zero_le _, hc, by rw [hj, e]⟩
end
/-! ### what keeps the keys -/
section
variable {P : Program} {w : World} {h h' : Heap} {k : NestedKey} {a b : Addr} {L : List AK} {es : Array (Int × Value)} {ep : Nat} {t : SetTable}
theorem nk_keep (hk : ∀ b o vs n, h.get? b = some o → o.data = .seq vs n → h'.get? b = some o) (x : NK P w h k b) : NK P w h' k b := ⟨NestedIs.at hk _ _ x.1, x.2⟩
theorem nk_all (hk : ∀ b o, h.get? b = some o → h'.get? b = some o) (x : NK P w h k b) : NK P w h' k b := nk_keep (fun b o _ _ e _ => hk b o e) x
theorem nk_but {o : Obj} (ho : h.get? a = some o) (hd : o.data = .set es ep t) (sb : Heap.SameBut a h h') (x : NK P w h k b) : NK P w h' k b := nk_keep (fun c o' vs n e e2 => (sb.2 c (fun z => by
  subst z
  rw [ho] at e
  cases e
  rw [hd] at e2
  cases e2)).trans e) x
theorem NSet.keeps (R : NSet P w h a L es ep t) (ha : ∀ o, h.get? a = some o → h'.get? a = some o) (hk : ∀ p ∈ L, NK P w h' p.2 p.1) : NSet P w h' a L es ep t := by
  obtain ⟨o, ho, r⟩ := R.at_
  exact ⟨⟨o, ha o ho, r⟩, R.ent, R.tab, R.nd, hk, R.led, R.room, R.few⟩
theorem range_get : ∀ L : List AK, (List.range L.length).filterMap (fun i => L[i]?) = L
  | [] => rfl
  | p :: L => by
    rw [List.length_cons, List.range_succ_eq_map, List.filterMap_cons_some (f := fun i => (p :: L)[i]?) (a := 0) (b := p) rfl, List.filterMap_map]
    congr 1
    exact range_get L
theorem order_ent (he : es.toList = L.map (rowK w)) {order : Array Nat} (hp : order.toList.Perm (List.range L.length)) :
    ∃ M, (order.filterMap (es[·]?)).toList = M.map (rowK w) ∧ M.Perm L ∧ hsK w M = order.toList.map fun i => (es.map (·.1)).getD i 0 := by
  have eg : ∀ i : Nat, es[i]? = (L[i]?).map (rowK w) := fun i => by rw [← Array.getElem?_toList, he, List.getElem?_map]
  refine ⟨order.toList.filterMap fun i => L[i]?, ?_, ?_, ?_⟩
  · rw [Array.toList_filterMap, List.map_filterMap]
    exact congrArg (fun f => List.filterMap f order.toList) (funext eg)
  · have h1 := hp.filterMap fun i => L[i]?
    rwa [range_get] at h1
  · have hall : ∀ l : List Nat, (∀ i ∈ l, i < L.length) → hsK w (l.filterMap fun i => L[i]?) = l.map fun i => (es.map (·.1)).getD i 0 := by
      intro l
      induction l with
      | nil => intro _; rfl
      | cons i l ih =>
        intro hl
        have hi := hl i List.mem_cons_self
        obtain ⟨p, hpp⟩ : ∃ p, L[i]? = some p := ⟨_, List.getElem?_eq_getElem hi⟩
        show List.map _ _ = _
        rw [List.filterMap_cons_some (f := fun i => L[i]?) hpp, List.map_cons, List.map_cons, ← ih fun j hj => hl j (List.mem_cons_of_mem _ hj)]
        have e5 : (es.map (·.1))[i]? = some (p.2.hash w) := by rw [Array.getElem?_map, eg, hpp]; rfl
        simp [Array.getD_eq_getD_getElem?, e5]
    exact hall _ fun i hi => List.mem_range.mp (hp.mem_iff.mp hi)
end
section
variable {P : Program} {w : World} {A : Around} {s : Shared}
variable {E : Value → Shared → Prop} {a : Addr} {L : List AK} {es : Array (Int × Value)} {ep : Nat} {t : SetTable}
/-- a larger table -/
theorem ns_relay {o : Obj} (ho : s.heap.get? a = some o) (hex : o.ExactSet) (hd : o.data = .set es ep t) (he : es.toList = L.map (rowK w)) (hp : t.place.size = es.size) (hdm : t.dummies = #[]) (hfl : es.size ≤ t.mask)
    (nd : (L.map (·.2)).Nodup) (key : ∀ p ∈ L, NK P w s.heap p.2 p.1) (led : w.params.followText "set-order" = true ∨ t.led = true) (few : L.length < 64) {wanted M : Nat}
    (hw : SetTable.sizeAbove wanted - 1 = M) (hM : MaskOk M) (hw2 : SetTable.sizeAbove wanted ≤ 128) (hn : L.length * 5 < M * 3) {Q : Unit → Shared → Prop}
    (q : ∀ h' L' es' ep' t', Heap.SameBut a s.heap h' → NSet P w h' a L' es' ep' t' → L'.Perm L → Q () { s with heap := h' }) : wpAny (model P w) A (setRelay a wanted) Q E s := by
  have hsl := ent_size he
  have hfits : t.fits es.size = true := fits_of hsl hdm hp (by omega)
  obtain ⟨t', order, e, hperm, T, em, el, _, _⟩ := relaid_ok t (hs := es.map (·.1)) (wanted := wanted) hw hM (by rw [Array.size_map, hsl]; omega)
  rw [Array.size_map, hsl] at hperm
  obtain ⟨L2, r1, r2, r3⟩ := order_ent he hperm
  rw [← r3] at T
  have hs2 : (order.filterMap (es[·]?)).size = es.size := by rw [← Array.length_toList, r1, List.length_map, r2.length_eq, hsl]
  rw [setRelay_eq]
  refine wpAny_bind (wpAny_setState_of ho hd hfits ?_)
  dsimp only
  refine wp_if_neg (by rw [sizeLine_eq]; omega) ?_
  try refine wpAny_bind (wpAny_pure ?_)
  rw [e]
  dsimp only
  refine wpAny_bind ?_
  refine wp_if_neg (by rw [hs2]; simp) ?_
  try refine wpAny_bind (wpAny_pure ?_)
  refine wpAny_pure ?_
  dsimp only
  refine wpAny_storeSet_of ho hd ?_ (by rw [hs2, hsl, sizeLine_eq]; omega)
  have sb : Heap.SameBut a s.heap (s.heap.update a (Obj.putSet (order.filterMap (es[·]?)) t')) := Heap.SameBut.update ..
  refine q _ L2 (order.filterMap (es[·]?)) (ep + 1) t' sb ⟨⟨_, store_at ho hd, ⟨hex.1, hex.2.1, hex.2.2⟩, rfl⟩, r1, T, (r2.map (·.2)).nodup_iff.mpr nd, fun p hpm => nk_but ho hd sb (key p (r2.mem_iff.mp hpm)), by rw [el]; exact led, ?_, by rw [r2.length_eq]; exact few⟩ r2
  rw [r2.length_eq, em]
  exact hn
/-- one more -/
theorem ns_add (R : NSet P w s.heap a L es ep t) {x : Addr} {k : NestedKey} (hx : NK P w s.heap k x) (hu : A.units + 8 < cLine) (hfew : L.length + 1 < 64) {Q : Bool → Shared → Prop}
    (q : ∀ b h' L' es' ep' t', Heap.SameBut a s.heap h' → NSet P w h' a L' es' ep' t' → (k ∈ L.map (·.2) → L' = L) → (k ∉ L.map (·.2) → L'.Perm ((x, k) :: L)) → Q b { s with heap := h' }) :
    wpAny (model P w) A (setAddHashed a (.ref x) (k.hash w)) Q E s := by
  obtain ⟨o, ho, hex, hd⟩ := R.at_
  have hsl := ent_size R.ent
  have hroom := R.room
  unfold setAddHashed
  refine wpAny_holding ?_
  rw [show (100000 : Nat) = 99999 + 1 from rfl, setAddHashedIn_succ]
  refine wpAny_bind (wpAny_setState_of ho hd R.fit ?_)
  dsimp only
  refine wp_if_neg (by simp [byScan, Value.scannable]) ?_
  try refine wpAny_bind (wpAny_pure ?_)
  refine wpAny_bind (ns_search R hx hu (fun hm => ?_) fun K hm hK hb => ?_)
  · dsimp only
    exact wpAny_pure (q false s.heap L es ep t (Heap.SameBut.refl a s.heap) R (fun _ => rfl) fun z => absurd hm z)
  dsimp only
  refine wpAny_bind (wpAny_setState_of ho hd R.fit ?_)
  dsimp only
  obtain ⟨q1, q2, q3, q4, q5, _, _, _, q9⟩ := R.tab.put hK hb
  generalize hpt : t.put (way t.mask (k.hash w) K) = pt at q1 q3 q4 q5 q9 ⊢
  obtain ⟨t1, m⟩ := pt
  dsimp only at q1 q3 q4 q5 q9 ⊢
  subst q1
  generalize hpp : SetTable.below t.place (way t.mask (k.hash w) K) = m at q2 q3 ⊢
  have pm := put_perm L m (x, k)
  have hlen : (L.take m ++ (x, k) :: L.drop m).length = L.length + 1 := pm.length_eq
  have hin : (SetTable.insertAt es m (k.hash w, Value.ref x)).toList = (L.take m ++ (x, k) :: L.drop m).map (rowK w) := by
    rw [SetTable.toList_insertAt, R.ent, List.map_append, List.map_cons, List.map_take, List.map_drop]
    rfl
  have hhs : hsK w (L.take m ++ (x, k) :: L.drop m) = (hsK w L).take m ++ k.hash w :: (hsK w L).drop m := by
    show List.map _ _ = _
    rw [List.map_append, List.map_cons, List.map_take, List.map_drop]
  rw [← hhs] at q3
  have nd1 : ((L.take m ++ (x, k) :: L.drop m).map (·.2)).Nodup := by
    refine (pm.map (·.2)).nodup_iff.mpr ?_
    rw [List.map_cons]
    exact List.nodup_cons.mpr ⟨hm, R.nd⟩
  have hes := ent_size hin
  rw [hlen] at hes
  generalize SetTable.insertAt es m (k.hash w, Value.ref x) = es1 at hin hes ⊢
  generalize L.take m ++ (x, k) :: L.drop m = L1 at pm hlen q3 nd1 hin
  have hfill : t1.fill = L.length + 1 := by rw [q9, List.length_map]
  have rest : ∀ t2 : SetTable, t2.place = t1.place → t2.dummies = t1.dummies → t2.mask = t1.mask → t2.led = t1.led →
      wpAny (model P w) A (do
        storeSet a es1 t2
        if !false && t2.tooFull then setRelay a (SetTable.grown (es.size + 1))
        return true) Q E s := by
    intro t2 g1 g2 g3 g4
    have T2 : TabOk t2 (hsK w L1) := ⟨by rw [g1]; exact q3.ris, by rw [g2]; exact q3.dm, by rw [g1]; exact q3.sz, by rw [g3]; exact q3.mok, by rw [g1, g3]; exact q3.bd, by rw [g1, g3]; exact q3.reach⟩
    have hfill2 : t2.fill = L.length + 1 := by
      rw [← hfill]
      unfold SetTable.fill
      rw [g1, g2]
    have g5 : t2.mask = t.mask := g3.trans q4
    have led1 : w.params.followText "set-order" = true ∨ t2.led = true := by rw [g4, q5]; exact R.led
    refine wpAny_bind (wpAny_storeSet_of ho hd ?_ (by rw [hes, sizeLine_eq]; omega))
    have sb : Heap.SameBut a s.heap (s.heap.update a (Obj.putSet es1 t2)) := Heap.SameBut.update ..
    have ho1 := store_at (es' := es1) (t' := t2) ho hd
    generalize s.heap.update a (Obj.putSet es1 t2) = h1 at sb ho1 ⊢
    have key1 : ∀ p ∈ L1, NK P w h1 p.2 p.1 := fun p hp => by
      rcases List.mem_cons.mp (pm.mem_iff.mp hp) with e | hp
      · rw [e]; exact nk_but ho hd sb hx
      · exact nk_but ho hd sb (R.key p hp)
    by_cases hf : t2.tooFull = true
    · have hfull : (L.length + 1) * 5 ≥ t.mask * 3 := by
        have z := hf
        unfold SetTable.tooFull at z
        rw [decide_eq_true_eq, hfill2, g5] at z
        exact z
      rw [hsl]
      have two : (t.mask = 7 ∧ L.length = 4) ∨ (t.mask = 31 ∧ L.length = 18) := by
        rcases R.tab.mok with e | e | e <;> rw [e] at hfull hroom <;> omega
      have hp1 : t2.place.size = es1.size := by
        have z := T2.sz
        rw [List.length_map, hlen] at z
        rw [z, hes]
      have go : ∀ M, SetTable.sizeAbove (SetTable.grown (L.length + 1)) - 1 = M → MaskOk M → SetTable.sizeAbove (SetTable.grown (L.length + 1)) ≤ 128 → (L.length + 1) * 5 < M * 3 →
          wpAny (model P w) A (setRelay a (SetTable.grown (L.length + 1))) (fun _ s' => wpAny (model P w) A (pure true) Q E s') E { s with heap := h1 } := fun M z1 z2 z3 z4 =>
        ns_relay (s := { s with heap := h1 }) ho1 ⟨hex.1, hex.2.1, hex.2.2⟩ rfl hin hp1 T2.dm (by rw [hes, g5]; rcases two with ⟨e, e2⟩ | ⟨e, e2⟩ <;> omega) nd1 key1 led1 (by rw [hlen]; exact hfew) z1 z2 z3 (by rw [hlen]; exact z4)
          fun h2 L2 es2 ep2 t3 sb2 R2 pm2 => wpAny_pure (q true h2 L2 es2 ep2 t3 (sb.trans sb2) R2 (fun z => absurd z hm) fun _ => pm2.trans pm)
      have fin : wpAny (model P w) A (setRelay a (SetTable.grown (L.length + 1))) (fun _ s' => wpAny (model P w) A (pure true) Q E s') E { s with heap := h1 } := by
        rcases two with ⟨_, e2⟩ | ⟨_, e2⟩
        · exact go 31 (by rw [e2, size_20]) (.inr (.inl rfl)) (by rw [e2, size_20]; decide) (by omega)
        · exact go 127 (by rw [e2, size_76]) (.inr (.inr rfl)) (by rw [e2, size_76]; decide) (by omega)
      first
        | (refine wpAny_bind ?_; exact wp_if_pos (by simp [hf]) fin)
        | (refine wp_if_pos (by simp [hf]) ?_; exact wpAny_bind fin)
    · have last : Q true { s with heap := h1 } := by
        refine q true h1 L1 es1 (ep + 1) t2 sb ⟨⟨_, ho1, ⟨hex.1, hex.2.1, hex.2.2⟩, rfl⟩, hin, T2, nd1, key1, led1, ?_, by rw [hlen]; exact hfew⟩ (fun z => absurd z hm) fun _ => pm
        have z := hf
        unfold SetTable.tooFull at z
        rw [decide_eq_true_eq, hfill2] at z
        rw [hlen]
        omega
      first
        | exact wp_if_neg (by simp [hf]) (wpAny_pure last)
        | (refine wpAny_bind ?_; exact wp_if_neg (by simp [hf]) (wpAny_pure (wpAny_pure last)))
  have both : ∀ b : Bool, wpAny (model P w) A (do
        storeSet a es1 (if b = true then t1 else { t1 with plain := false })
        if !false && (if b = true then t1 else { t1 with plain := false }).tooFull then setRelay a (SetTable.grown (es.size + 1))
        return true) Q E s := fun b => by
    cases b with
    | true => exact rest t1 rfl rfl rfl rfl
    | false => exact rest { t1 with plain := false } rfl rfl rfl rfl
  by_cases hpl : t1.plain = true
  · first
      | (refine wpAny_bind ?_; refine wp_if_pos hpl ?_; exact nk_byval _ _ 8 _ _ hx.1 both)
      | exact wp_if_pos hpl (wpAny_bind (nk_byval _ _ 8 _ _ hx.1 both))
  · first
      | (refine wpAny_bind ?_; refine wp_if_neg hpl ?_; exact wpAny_pure (both true))
      | exact wp_if_neg hpl (wpAny_bind (wpAny_pure (both true)))
      | exact wp_if_neg hpl (both true)
end
/-! ### set(xs) -/
/-- what stands in the set behind the first i items -/
structure GotK (ks : List AK) (i : Nat) (L : List AK) : Prop where
  sub : ∀ p ∈ L, p ∈ ks.take i
  all : ∀ p ∈ ks.take i, p.2 ∈ L.map (·.2)
  len : L.length ≤ i
theorem GotK.next {ks L L' : List AK} {i : Nat} {x : AK} (g : GotK ks i L) (h : ks[i]? = some x) (c1 : x.2 ∈ L.map (·.2) → L' = L) (c2 : x.2 ∉ L.map (·.2) → L'.Perm (x :: L)) : GotK ks (i + 1) L' := by
  have e := take_next h
  by_cases c : x.2 ∈ L.map (·.2)
  · rw [c1 c]
    refine ⟨fun p hp => by rw [e]; exact List.mem_append_left _ (g.sub p hp), fun p hp => ?_, Nat.le_succ_of_le g.len⟩
    rw [e] at hp
    rcases List.mem_append.mp hp with z | z
    · exact g.all p z
    · rw [List.mem_singleton.mp z]; exact c
  · have pm := c2 c
    refine ⟨fun p hp => ?_, fun p hp => ?_, by rw [pm.length_eq, List.length_cons]; exact Nat.succ_le_succ g.len⟩
    · rw [e]
      rcases List.mem_cons.mp (pm.mem_iff.mp hp) with z | z
      · rw [z]; exact List.mem_append_right _ (List.mem_singleton.mpr rfl)
      · exact List.mem_append_left _ (g.sub p z)
    · rw [(pm.map (·.2)).mem_iff, List.map_cons]
      rw [e] at hp
      rcases List.mem_append.mp hp with z | z
      · exact List.mem_cons_of_mem _ (g.all p z)
      · rw [List.mem_singleton.mp z]; exact List.mem_cons_self
/-- a new set -/
abbrev new0 (w : World) : Obj := { cls := .type "set", dict := none, data := .set #[] 0 (.fresh 0 0 (!w.params.followText "set-order")) }
section
variable {P : Program} {w : World} {A : Around} {s : Shared}
variable {E : Value → Shared → Prop}
theorem ns_new {h : Heap} {a : Addr} (ho : h.get? a = some (new0 w)) : NSet P w h a [] #[] 0 (.fresh 0 0 (!w.params.followText "set-order")) := by
  refine ⟨⟨_, ho, ⟨rfl, rfl, rfl⟩, rfl⟩, rfl, ⟨.nil, rfl, rfl, .inl rfl, fun x hx => (by cases hx), fun i h j hi => (by simp at hi)⟩, .nil, fun p hp => (by cases hp), ?_, by show 0 * 5 < 7 * 3; omega, by show 0 < 64; omega⟩
  show _ ∨ (!w.params.followText "set-order") = true
  cases w.params.followText "set-order"
  · exact .inr rfl
  · exact .inl rfl
theorem ns_loop {I : Addr} {fp wr : List Addr} {G : Array GenState → Array GenState → Prop} {n : Nat} {Pv : Nat → Value → Prop} {St : Nat → Shared → Prop} {R : Result → Shared → Prop}
    (W : WalksS P w A.in1 I fp wr G n Pv St) (S : Addr) (hSf : S ∉ fp) (ks : List AK) (hn : n = ks.length) (hfew : ks.length < 64) (hval : ∀ i v, Pv i v → ∃ p, ks[i]? = some p ∧ v = Value.ref p.1)
    (h0 : Heap) (hk : ∀ p ∈ ks, NK P w h0 p.2 p.1) (hS0 : h0.get? S = none) (hw0 : ∀ b ∈ wr, h0.get? b = none) (hu : A.in1.units + 8 < cLine) :
    ∀ (d i : Nat) (s : Shared), n - i = d → i ≤ n → St i s → (∀ b o, h0.get? b = some o → s.heap.get? b = some o) → (∃ L es ep t, NSet P w s.heap S L es ep t ∧ GotK ks i L) →
      (∀ s' L es ep t, Moved (S :: wr) G s s' → NSet P w s'.heap S L es ep t → GotK ks n L → (∀ b o, h0.get? b = some o → s'.heap.get? b = some o) → R (.ok (.ret .none)) s') →
      codeAny (model P w) A (.builtin "set.update.loop" ⟨[.ref S, .ref I], []⟩) R s := by
  have hSw : S ∉ wr := fun z => hSf (W.sub _ z)
  have hsub : ∀ b ∈ wr, b ∈ S :: wr := fun b hb => List.mem_cons_of_mem _ hb
  have still : ∀ {s s' : Shared}, Moved wr G s s' → (∀ b o, h0.get? b = some o → s.heap.get? b = some o) → ∀ b o, h0.get? b = some o → s'.heap.get? b = some o := fun hm hkp b o e =>
    hm.heap b o (fun hb => by rw [hw0 b hb] at e; cases e) (hkp b o e)
  intro d
  induction d with
  | zero =>
    rintro i s hd hi hst hkp ⟨L, es, ep, t, hS, g⟩ hR
    obtain rfl : i = n := by omega
    refine codeAny_builtin F.entry_set_update_loop ?_
    rw [Around.under_plainId F.plain_set_update_loop _]
    show wpAny _ A.in1 (pyNext (.ref I) >>= _) _ _ s
    refine wpAny_bind (W.done s _ _ hst fun s' hm => ?_)
    show wpAny _ A.in1 (ret Value.none) _ _ s'
    have hkp' := still hm hkp
    exact wpAny_pure (hR s' L es ep t (hm.mono hsub) (hS.keeps (fun o e => hm.heap S o hSw e) fun p hp => nk_all hkp' (hk p (List.mem_of_mem_take (g.sub p hp)))) g hkp')
  | succ d ih =>
    rintro i s hd hi hst hkp ⟨L, es, ep, t, hS, g⟩ hR
    have hlt : i < n := by omega
    refine codeAny_builtin F.entry_set_update_loop ?_
    rw [Around.under_plainId F.plain_set_update_loop _]
    show wpAny _ A.in1 (pyNext (.ref I) >>= _) _ _ s
    refine wpAny_bind (W.item i s _ _ hlt hst fun v s' hP hst' hm => ?_)
    obtain ⟨p, hp, rfl⟩ := hval i v hP
    have hkp' := still hm hkp
    have hS' : NSet P w s'.heap S L es ep t := hS.keeps (fun o e => hm.heap S o hSw e) fun q hq => nk_all hkp' (hk q (List.mem_of_mem_take (g.sub q hq)))
    have hx : NK P w s'.heap p.2 p.1 := nk_all hkp' (hk p (List.mem_of_getElem? hp))
    show wpAny _ A.in1 (holding [Value.ref p.1] (setAdd S (.ref p.1)) >>= _) _ _ s'
    refine wpAny_bind (wpAny_holding ?_)
    unfold setAdd
    refine wpAny_holding ?_
    refine wpAny_bind ((nestedKind P w).pyHash hu hx ?_)
    refine ns_add (s := { s' with toks := s'.toks + p.2.draws }) hS' hx hu (by have := g.len; omega) fun b h' L' es' ep' t' sb hS2 c1 c2 => ?_
    have hkp2 : ∀ b o, h0.get? b = some o → h'.get? b = some o := fun b o e => (sb.2 b (fun z => by rw [z, hS0] at e; cases e)).trans (hkp' b o e)
    refine wpAny_pure ⟨plainId_quiet F.plain_set_update_loop _, ih (i + 1) _ (by omega) hlt (W.frame _ s' _ _ hst' (Nat.le_add_right _ _) fun b hb o e => ?_) hkp2 ⟨L', es', ep', t', hS2, g.next hp c1 c2⟩ fun s'' L2 es2 ep2 t2 hm'' hS'' g'' hkp'' => ?_⟩
    · rw [sb.2 b (fun z : b = S => hSf (by rw [← z]; exact hb))]; exact e
    · refine hR s'' L2 es2 ep2 t2 (Moved.trans W.gtrans ((hm.mono hsub).then_heap (Nat.le_add_right _ _) fun b o hb e => ?_) hm'') hS'' g'' hkp''
      rw [sb.2 b (fun z : b = S => hb (by rw [z]; exact List.mem_cons_self))]; exact e
end
section
variable {P : Program} {w : World} {A : Around} {s : Shared}
variable {E : Value → Shared → Prop}
theorem ns_call {l : Addr} {items : Array Value} (ks : List AK) {Q : Value → Shared → Prop} (hh : A.handled = none) (hl : s.heap.IsList l items) (hit : items.toList = ks.map fun p => Value.ref p.1)
    (hk : ∀ p ∈ ks, NK P w s.heap p.2 p.1) (hfew : ks.length < 64) (hu : A.units + 20 < cLine)
    (q : ∀ (h' : Heap) (tk : Nat) L es ep t, NSet P w h' s.heap.objs.size L es ep t → GotK ks ks.length L → (∀ b o, s.heap.get? b = some o → h'.get? b = some o) → Q (.ref s.heap.objs.size) { s with heap := h', toks := tk }) :
    wpAny (model P w) A (call (.type "set") [.ref l]) Q E s := by
  have hisz : items.size = ks.length := by rw [← Array.length_toList, hit, List.length_map]
  have hval : ∀ (i : Nat) (v : Value), items[i]? = some v → ∃ p, ks[i]? = some p ∧ v = Value.ref p.1 := fun i v hv => by
    rw [← Array.getElem?_toList, hit, List.getElem?_map] at hv
    obtain ⟨p, hp, e⟩ := Option.map_eq_some_iff.mp hv
    exact ⟨p, hp, e.symm⟩
  have free9 : ∀ b, s.heap.objs.size ≤ b → s.heap.get? b = none := fun b hb => by
    cases z : s.heap.get? b with
    | none => rfl
    | some o => exact absurd (Heap.lt_size z) (Nat.not_lt.mpr hb)
  obtain ⟨c, tl, hmro⟩ := F.called_set.mro
  have h1 := F.called_set.notType; have h2 := F.called_set.canCreate
  have hmade := F.called_set.made; have hsub := F.called_set.sub
  refine wpAny_call (codeAny_of_tree (by
    show wpAny _ _ (callAny (.type "set") _) _ _ _
    refine wpAny_pure ⟨Code.quiet_builtin _ (by decide +kernel), codeAny_builtin F.entry_type_call ?_⟩
    rw [Around.under_plain (weight_type_call_type "set" [.ref l] []) rfl]
    have hct := F.typeCall_set_1 (.ref l)
    repeat (any_goals (first | assumption | wp_step))
    refine codeAny_mono (code_set_led1 (.ref l) (E := E) (Q₁ := fun obj s₁ => obj = .ref s.heap.objs.size ∧ s₁ = { s with heap := s.heap.push (new0 w) }) ⟨rfl, rfl⟩) fun r s₁ hr => ?_
    cases r with
    | error e => exact hr
    | ok fl =>
      cases fl with
      | ret obj =>
        obtain ⟨rfl, rfl⟩ := hr
        have hS : (s.heap.push (new0 w)).get? s.heap.objs.size = some (new0 w) := Heap.get?_push_size _ rfl
        have hT : Shared.TypeIs { s with heap := s.heap.push (new0 w) } (.ref s.heap.objs.size) "set" := ⟨_, hS, rfl⟩
        have hli := F.called_set.init.lookup
        have hbi := F.called_set.init.bind (.ref s.heap.objs.size)
        repeat (any_goals (first | assumption | wp_step))
        refine codeAny_mono (codeAny_call_builtin (R := wants (fun r s₂ => r = .none ∧ ∃ h' tk L es ep t, s₂ = { s with heap := h', toks := tk } ∧ NSet P w h' s.heap.objs.size L es ep t ∧ GotK ks ks.length L ∧
            (∀ b o, s.heap.get? b = some o → h'.get? b = some o)) E) F.called_set.init.plain F.entry_set_init (check_set_init_1 hT ?_)) fun r₂ s₂ hr₂ => ?_
        · obtain ⟨ol, hol, hcl, nl, hdl⟩ := hl
          obtain ⟨ocls, odict, odata, oslots⟩ := ol
          simp only at hcl hdl
          subst hcl; subst hdl
          have hol' : (s.heap.push (new0 w)).get? l = some { cls := .type "list", dict := odict, data := .seq items nl, slots := oslots } := Heap.get?_push_of_some _ hol
          have hsls := F.sub_list_set; have hslf := F.sub_list_frozenset
          have hne : (Value.type "list" == Value.type "dict") = false := by decide
          have hl1 : (s.heap.push (new0 w)).IsList l items := ⟨_, hol', rfl, nl, rfl⟩
          have hlS : l < s.heap.objs.size := Heap.lt_size hol
          have hz1 : (s.heap.push (new0 w)).objs.size = s.heap.objs.size + 1 := Heap.size_push ..
          unfold Builtin.«set.__init__» noKeywords Builtin.Frozenset.updateFrom
          generalize hPI : pyIter = PI
          wp_walk
          subst hPI
          refine wpAny_pyIter_list hl1 ?_
          refine wpAny_bind (wpAny_runValue ?_)
          have hh3 : A.in1.in1.in1.handled = none := by simp [hh]
          refine ns_loop ((Walks.list hh3 (s.heap.push (new0 w)).objs.size l (by rw [hz1]; exact Nat.ne_of_lt (Nat.lt_succ_of_lt hlS)) items).toS) s.heap.objs.size (by rw [hz1]; simp only [List.mem_cons, List.not_mem_nil, or_false, not_or]; exact ⟨Nat.ne_of_lt (Nat.lt_succ_self _), Nat.ne_of_gt hlS⟩)
            ks hisz hfew hval s.heap hk (free9 _ (Nat.le_refl _)) (fun b hb => free9 b (by rw [List.mem_singleton.mp hb, hz1]; exact Nat.le_succ _)) (by simp only [Around.in1] at *; omega) (items.size - 0) 0 _ (by omega) (Nat.zero_le _)
            ⟨⟨_, Heap.get?_push_size _ rfl, rfl, rfl⟩, (hl1.push _)⟩ (fun b o e => Heap.get?_push_of_some _ (Heap.get?_push_of_some _ e)) ⟨[], #[], 0, _, ns_new (Heap.get?_push_of_some _ hS), ⟨fun p hp => (by cases hp), fun p hp => (by simp at hp), Nat.le_refl _⟩⟩ ?_
          intro s' L es ep t hm hS' g' hkp
          obtain ⟨h', g2, d', tk', os'⟩ := s'
          obtain rfl : g2 = s.gens := hm.gens
          obtain rfl : d' = s.drawn := hm.drawn
          obtain rfl : os' = s.os := hm.os
          refine wpAny_pure ?_
          show wpAny _ _ (ret Value.none) _ _ _
          rw [hisz] at g'
          exact wpAny_pure ⟨rfl, h', tk', L, es, ep, t, rfl, hS', g', hkp⟩
        · cases r₂ with
          | error e => exact hr₂
          | ok fl₂ =>
            cases fl₂ with
            | ret r =>
              obtain ⟨rfl, h', tk, L, es, ep, t, rfl, hS', g', hk'⟩ := hr₂
              repeat (any_goals (first | assumption | wp_step))
              exact q _ _ _ _ _ _ hS' g' hk'
            | _ => exact hr₂.elim
      | _ => exact hr.elim))
end
end My

/-! own layer: sorted of sets of nested keys, over the layer -/
namespace My
open PySem PySem.Spec PyProof.Rows L2
/-! ### sorted(s) -/
theorem perm_back {α β : Type} {f : α → β} : ∀ {vs : List β} {L : List α}, vs.Perm (L.map f) → ∃ M : List α, M.Perm L ∧ vs = M.map f
  | [], L, h => by
    have := h.length_eq
    rw [List.length_map] at this
    rw [List.length_eq_zero_iff.mp this.symm]
    exact ⟨[], .refl _, rfl⟩
  | v :: vs, L, h => by
    obtain ⟨p, hp, rfl⟩ := List.mem_map.mp (h.mem_iff.mp List.mem_cons_self)
    obtain ⟨l1, l2, rfl⟩ := List.append_of_mem hp
    rw [List.map_append, List.map_cons] at h
    have h2 := (h.trans List.perm_middle).cons_inv
    rw [← List.map_append] at h2
    obtain ⟨M, hM, rfl⟩ := perm_back h2
    exact ⟨p :: M, (hM.cons p).trans List.perm_middle.symm, rfl⟩
mutual
theorem reads_nil {h : Heap} : ∀ (k : NestedKey) (v : Value) (as : List Addr), Reads h v k.data as → as = []
  | .none, _, _, r => by unfold NestedKey.data at r; cases r; rfl
  | .num i, _, _, r => by unfold NestedKey.data at r; cases r; rfl
  | .text x, _, _, r => by unfold NestedKey.data at r; cases r; rfl
  | .tup ks, _, _, r => by
    unfold NestedKey.data at r
    cases r with
    | tuple _ _ _ h4 => exact reads_nils ks _ _ h4
theorem reads_nils {h : Heap} : ∀ (ks : List NestedKey) (vs : List Value) (as : List Addr), ReadsAll h vs (NestedKey.datas ks) as → as = []
  | [], _, _, r => by unfold NestedKey.datas at r; cases r; rfl
  | k :: ks, _, _, r => by
    unfold NestedKey.datas at r
    cases r with
    | cons h1 h2 => rw [reads_nil k _ _ h1, reads_nils ks _ _ h2]; rfl
end
theorem eachK {R : Value → AK → Prop} : ∀ {L : List AK}, (∀ p ∈ L, R (Value.ref p.1) p) → PySem.W.EachIs R (L.map fun p => Value.ref p.1) L
  | [], _ => .nil
  | p :: L, h => .cons (h p List.mem_cons_self) (eachK fun q hq => h q (List.mem_cons_of_mem _ hq))
theorem each_refs : ∀ {L : List AK} {out : List Value}, PySem.W.EachIs (fun v p => v = Value.ref p.1) out L → out = L.map fun p => Value.ref p.1
  | [], _, .nil => rfl
  | p :: L, _, .cons h t => by rw [h, each_refs t]; rfl
/-- the keys in their order -/
def ordK (L : List AK) : List AK := L.mergeSort (PySem.W.dataLe false fun p => p.2.data)
section
variable {P : Program} {w : World} {A : Around} {s : Shared}
variable {E : Value → Shared → Prop} {a : Addr} {L : List AK} {es : Array (Int × Value)} {ep : Nat} {t : SetTable}
theorem ns_sorted (R : NSet P w s.heap a L es ep t) (hh : A.handled = none) (ht : ∀ p ∈ L, ∃ x r, p.2.data = .tuple (x :: r)) (hal : PySem.W.AllAlike (L.map fun p => p.2.data)) (hr : ∀ p ∈ L, ∃ as, Reads s.heap (.ref p.1) p.2.data as)
    (hu : ∀ p ∈ L, A.units + 4 + p.2.data.depth < cLine) {Q : Value → Shared → Prop}
    (q : ∀ (s' : Shared) (m : Addr) (out : Array Value) (c : Nat) (M : List AK), (∀ b o, s.heap.get? b = some o → s'.heap.get? b = some o) → s'.gens = s.gens → s'.os = s.os → s.heap.objs.size ≤ m →
      s'.heap.get? m = some (seqObj "list" out c) → out.toList = (ordK M).map (fun p => Value.ref p.1) → M.Perm L → Q (.ref m) s') :
    wpAny (model P w) A (call (.builtin "sorted") [.ref a]) Q E s := by
  obtain ⟨o, ho, hex, hd⟩ := R.at_
  have hsz := ent_size R.ent
  have hfew := R.few
  refine Calls.call_function_entry kind_sorted plain_sorted entry_sorted (args_sorted1 _) ?_
  unfold Builtin.«sorted»
  refine wpAny_bind (m := checkCount "sorted" 1 1 _) (wpAny_pure ?_)
  refine wpAny_bind (collect_set (A := A.in1) hh ⟨o, ho, hex.1, hd⟩ R.fit (by unfold scanBound; omega) R.tab.ris R.led fun s1 vs k1 hz g1 o1 pm => ?_)
  rw [R.ent, List.map_map] at pm
  obtain ⟨M, hM, rfl⟩ := perm_back (f := fun p : AK => Value.ref p.1) pm
  have hml : (M.map fun p : AK => Value.ref p.1).length < 64 := by rw [List.length_map, hM.length_eq]; exact hfew
  refine wpAny_bind (wpAny_newList ?_ (by rw [sizeLine_eq]; omega))
  have hnew : (s1.heap.push (seqObj "list" (M.map fun p : AK => Value.ref p.1).toArray 0)).get? s1.heap.objs.size = some (seqObj "list" (M.map fun p : AK => Value.ref p.1).toArray 0) := Heap.get?_push_size _ rfl
  have hback : ∀ p ∈ M, p ∈ L := fun p hp => hM.mem_iff.mp hp
  refine wpAny_bind (wpAny_holding (PySem.W.list_sort_data (s := { s1 with heap := s1.heap.push (seqObj "list" (M.map fun p : AK => Value.ref p.1).toArray 0) }) (bs := M) (enc := fun p : AK => p.2.data) (R := fun v p => v = Value.ref p.1) hnew (eachK fun p _ => rfl) (eachK fun p hp => ?_) ?_ (.inl ?_) ?_ ?_ fun out hl he => ?_))
  · obtain ⟨as, r⟩ := hr p (hback p hp)
    have e := reads_nil _ _ _ r
    subst e
    exact ⟨[], PyProof.Rows.Reads.keeps (fun b o z => Heap.get?_push_of_some _ (k1 b o z)) r, List.not_mem_nil⟩
  · intro d hd d' hd'
    obtain ⟨p, hp, rfl⟩ := List.mem_map.mp hd
    obtain ⟨p', hp', rfl⟩ := List.mem_map.mp hd'
    exact hal _ (List.mem_map.mpr ⟨p, hback p hp, rfl⟩) _ (List.mem_map.mpr ⟨p', hback p' hp', rfl⟩)
  · intro d hd
    obtain ⟨p, hp, rfl⟩ := List.mem_map.mp hd
    exact ht p (hback p hp)
  · rw [hM.length_eq, sizeLine_eq]; omega
  · intro p hp
    have := hu p (hback p hp)
    show A.in1.units + 1 + _ < cLine
    simp only [Around.in1] at *
    omega
  obtain ⟨c, hc⟩ := sortedHeap_at (vs := M.map fun p : AK => Value.ref p.1) (out := List.toArray out) hnew
  refine wpAny_pure ⟨_, rfl, q _ s1.heap.objs.size (List.toArray out) c M (fun b u e => ?_) g1 o1 hz hc (by rw [List.toList_toArray]; exact each_refs he) hM⟩
  have e1 := k1 b u e
  have hlt := Heap.lt_size e1
  show (sortedHeap _ s1.heap.objs.size _ _).get? b = some u
  rw [sortedHeap_old (Nat.ne_of_lt hlt) (by rw [size_push']; exact Nat.lt_succ_of_lt hlt)]
  exact Heap.get?_push_of_some _ e1
end
/-! ### over the layer -/
structure NS0 (P : Program) (w : World) (h : Heap) (a : Addr) (L : List AK) : Prop where
  ex : ∃ (es : Array (Int × Value)) (ep : Nat) (t : SetTable), (∃ o, h.get? a = some o ∧ o.ExactSet ∧ o.data = .set es ep t) ∧ es.toList = L.map (rowK w) ∧ TabOk t (hsK w L) ∧ (L.map (·.2)).Nodup ∧ (w.params.followText "set-order" = true ∨ t.led = true) ∧ L.length * 5 < t.mask * 3 ∧ L.length < 64
/-- a set of such keys -/
def NSO (P : Program) (w : World) (a : Addr) (L : List AK) : HO := .ext fun h => NS0 P w h a L
section
variable {P : Program} {w : World} {h : Heap} {a : Addr} {L : List AK}
theorem NSet.bare {es : Array (Int × Value)} {ep : Nat} {t : SetTable} (R : NSet P w h a L es ep t) : NS0 P w h a L := ⟨es, ep, t, R.at_, R.ent, R.tab, R.nd, R.led, R.room, R.few⟩
theorem NS0.whole (R : NS0 P w h a L) (hk : ∀ p ∈ L, NK P w h p.2 p.1) : ∃ es ep t, NSet P w h a L es ep t := by
  obtain ⟨es, ep, t, h1, h2, h3, h4, h5, h6, h7⟩ := R.ex
  exact ⟨es, ep, t, h1, h2, h3, h4, hk, h5, h6, h7⟩
theorem nso_ok {H : Hp} (R : NS0 P w h a L) : ObjOk P w H h a (NSO P w a L) := by
  have ⟨es, ep, t, ⟨o, ho, _⟩, _⟩ := R.ex
  refine ⟨R, ⟨o, ho⟩, fun h1 h2 p k => ?_⟩
  have ⟨es', ep', t', ⟨o', ho', r'⟩, q'⟩ := NS0.ex p
  exact ⟨es', ep', t', ⟨o', k o' ho', r'⟩, q'⟩
end
section
variable {X : Cx} {pins : List (Addr × Obj)} {σ : L2.St} {H : Hp} {s : Shared}
mutual
theorem nk_of (I : Inv X pins σ H s) : ∀ (k : NestedKey) (x : V) (v : Value), Dp X.K H x k.data → RelV x v → NestedIs s.heap k v
  | .none, x, v, d, r => by unfold NestedKey.data at d; cases d; cases r; exact .none
  | .num i, x, v, d, r => by unfold NestedKey.data at d; cases d; obtain ⟨t, rfl⟩ := r; exact .int i t
  | .text y, x, v, d, r => by unfold NestedKey.data at d; cases d; obtain ⟨t, rfl⟩ := r; exact .text y t
  | .tup ks, x, v, d, r => by
    unfold NestedKey.data at d
    obtain ⟨a, xs, rfl, h1, h2⟩ := dp_tup d
    cases r
    obtain ⟨its, rv, ⟨o, ho, hc, n, hd⟩, _⟩ := I.tuple h1
    exact .tup ho hc hd (by simpa using nk_ofs I ks xs its h2 rv)
theorem nk_ofs (I : Inv X pins σ H s) : ∀ (ks : List NestedKey) (xs : List V) (us : List Value), DpAll X.K H xs (NestedKey.datas ks) → Vals xs us → NestedAll s.heap ks us
  | [], xs, us, d, r => by unfold NestedKey.datas at d; cases d; cases r; exact .nil
  | k :: ks, xs, us, d, r => by
    unfold NestedKey.datas at d
    obtain ⟨x, xs, rfl, h1, h2⟩ := dpAll_cons d
    cases r with
    | cons r1 r2 => exact .cons (nk_of I k x _ h1 r1) (nk_ofs I ks xs _ h2 r2)
end
theorem refsK : ∀ {ks : List AK} {us : List Value}, Vals (ks.map fun p => V.ref p.1) us → us = ks.map fun p => Value.ref p.1
  | [], _, .nil => rfl
  | p :: ks, _, .cons r t => by
    cases r
    rw [refsK t]
    rfl
theorem valsK : ∀ (ks : List AK), Vals (ks.map fun p => V.ref p.1) (ks.map fun p => Value.ref p.1)
  | [] => .nil
  | p :: ks => .cons rfl (valsK ks)
/-- what may stand in such a set -/
def KeyAt (K : PySem.W.Frag) (H : Hp) (p : AK) : Prop := Dp K H (.ref p.1) p.2.data ∧ p.2.depth ≤ 8 ∧ p.2.data.depth ≤ 8
def rSetK (K : PySem.W.Frag) (P : Program) (w : World) : List V → Hp → VK → Prop := fun xs H Q => ∃ (l : Addr) (ks : List AK), xs = [.ref l] ∧ SqL K H l (ks.map fun p => V.ref p.1) ∧ (∀ p ∈ ks, KeyAt K H p) ∧ ks.length < 64 ∧
  ∀ a L, H a = none → (∀ p ∈ L, p ∈ ks) → (∀ p ∈ ks, p.2 ∈ L.map (·.2)) → (L.map (·.2)).Nodup → Q (.ref a) (upd H a (NSO P w a L))
theorem cr_setK (hc : X.calm = true) (hu : X.A.units + 64 < cLine) : CallR X (.type "set") (rSetK X.K X.prog X.w) := by
  intro pins s σ H xs us Q I r h
  obtain ⟨l, ks, rfl, hl, hk, hf, q⟩ := h
  rw [Vals.ref1 r]
  obtain ⟨its, rv, pl, _⟩ := I.list hl
  have hn : H s.heap.objs.size = none := I.hok.fresh (Nat.le_refl _)
  refine ns_call (P := X.prog) (w := X.w) ks (I.ok.hd hc) pl.isList (by simpa using refsK rv) (fun p hp => ⟨nk_of I _ _ _ (hk p hp).1 rfl, (hk p hp).2.1⟩) hf (by omega) fun h' tk L es ep t R g k => ?_
  exact ⟨.ref s.heap.objs.size, upd H s.heap.objs.size (NSO X.prog X.w s.heap.objs.size L), I.laid (t' := tk) k (Nat.le_refl _) (nso_ok R.bare), rfl, q _ L hn (fun p hp => List.mem_of_mem_take (g.sub p hp)) (fun p hp => g.all p (by rw [List.take_length]; exact hp)) R.nd⟩
def rSortK (K : PySem.W.Frag) (P : Program) (w : World) : List V → Hp → VK → Prop := fun xs H Q => ∃ (a : Addr) (L : List AK), xs = [.ref a] ∧ H a = some (NSO P w a L) ∧ (∀ p ∈ L, KeyAt K H p) ∧ (∀ p ∈ L, ∃ x r, p.2.data = .tuple (x :: r)) ∧ PySem.W.AllAlike (L.map fun p => p.2.data) ∧
  ∀ (M : List AK) (m : Addr), M.Perm L → H m = none → Q (.ref m) (upd H m (.lst ((ordK M).map fun p => V.ref p.1)))
theorem cr_sortK (hc : X.calm = true) (hu : X.A.units + 64 < cLine) : CallR X (.builtin "sorted") (rSortK X.K X.prog X.w) := by
  intro pins s σ H xs us Q I r h
  obtain ⟨a, L, rfl, ha, hk, ht, hal, q⟩ := h
  obtain ⟨es, ep, t, R⟩ := NS0.whole (I.hok a _ ha).1 fun p hp => ⟨nk_of I _ _ _ (hk p hp).1 rfl, (hk p hp).2.1⟩
  rw [Vals.ref1 r]
  refine ns_sorted R (I.ok.hd hc) ht hal (fun p hp => ?_) (fun p hp => by have := (hk p hp).2.2; omega) fun s' m out c M k g o hm hg hout pm => ?_
  · exact Dp.reads I p.2.data _ _ (hk p hp).1 rfl
  have hfew : (ordK M).length < 64 := by unfold ordK; rw [List.length_mergeSort, pm.length_eq]; exact R.few
  have hn : H m = none := I.hok.fresh hm
  have J : Inv X pins σ (upd H m (.lst ((ordK M).map fun q => V.ref q.1))) { s with heap := s'.heap, gens := s'.gens, drawn := s'.drawn, toks := s'.toks } :=
    I.call (ch := []) (Un.laid k hm hn) (I.hok.laid k hm ⟨by rw [List.length_map, sizeLine_eq]; omega, out.toList, c, by rw [hout]; exact valsK _, hg⟩) (by rw [g]; exact I.bare) (fun _ z => nomatch z)
  have e : s' = { s with heap := s'.heap, gens := s'.gens, drawn := s'.drawn, toks := s'.toks } := by
    cases s'; cases s; cases o; rfl
  rw [e]
  exact ⟨.ref m, _, J, rfl, q M m pm hn⟩
end
end My

/-! own layer: the settings that a law lists -/
namespace My
open PySem PySem.Spec PyProof.Rows L2 TL
abbrev Sett : Type := List Str × List Str
def settK (s : Sett) : NestedKey := .tup [.tup (s.1.map .text), .tup (s.2.map .text)]
theorem datas_text : ∀ ns : List Str, NestedKey.datas (ns.map .text) = ns.map .str
  | [] => rfl
  | n :: ns => by
    show NestedKey.data (.text n) :: NestedKey.datas (ns.map .text) = _
    rw [datas_text ns]
    rfl
theorem settK_data (s : Sett) : (settK s).data = settingD s := by
  show PyData.tuple [.tuple (NestedKey.datas (s.1.map .text)), .tuple (NestedKey.datas (s.2.map .text))] = _
  rw [datas_text, datas_text]
  rfl
theorem depth_text : ∀ ns : List Str, NestedKey.depthAll (ns.map .text) = 0
  | [] => rfl
  | n :: ns => by
    show max 0 (NestedKey.depthAll (ns.map .text)) = 0
    rw [depth_text ns]
    rfl
theorem settK_depth (s : Sett) : (settK s).depth = 2 := by
  show max (NestedKey.depthAll (s.1.map .text) + 1) (max (NestedKey.depthAll (s.2.map .text) + 1) 0) + 1 = 2
  rw [depth_text, depth_text]
  rfl
section
variable {K : PySem.W.Frag} {H : Hp}
theorem keyAt_of {a : Addr} {s : Sett} (h : Dp K H (.ref a) (settingD s)) : KeyAt K H (a, settK s) := ⟨by show Dp K H (.ref a) (settK s).data; rw [settK_data]; exact h, by show (settK s).depth ≤ 8; rw [settK_depth]; decide, by show (settK s).data.depth ≤ 8; rw [settK_data, depth_setting]; decide⟩
theorem keyed : ∀ {ss : List Sett} {xs : List V}, DpAll K H xs (ss.map settingD) → ∃ ks : List AK, xs = ks.map (fun p => V.ref p.1) ∧ ks.map (·.2) = ss.map settK ∧ ∀ p ∈ ks, KeyAt K H p
  | [], xs, h => by cases h; exact ⟨[], rfl, rfl, fun p hp => by cases hp⟩
  | s :: ss, xs, h => by
    obtain ⟨x, xs, rfl, h1, h2⟩ := dpAll_cons h
    obtain ⟨a, ys, rfl, _, _⟩ := dp_tup h1
    obtain ⟨ks, rfl, e, hk⟩ := keyed h2
    refine ⟨(a, settK s) :: ks, rfl, by rw [List.map_cons, List.map_cons, e], fun p hp => ?_⟩
    rcases List.mem_cons.mp hp with rfl | hp
    · exact keyAt_of h1
    · exact hk p hp
theorem unkeyed {ss : List Sett} : ∀ {M : List AK}, (∀ p ∈ M, KeyAt K H p ∧ ∃ s ∈ ss, p.2 = settK s) → ∃ ts : List Sett, DpAll K H (M.map fun p => V.ref p.1) (ts.map settingD) ∧ (∀ t ∈ ts, t ∈ ss) ∧ ts.length = M.length
  | [], _ => ⟨[], .nil, fun t ht => (by cases ht), rfl⟩
  | p :: M, h => by
    obtain ⟨h1, s, hs, e⟩ := h p List.mem_cons_self
    obtain ⟨ts, d, hts, hl⟩ := unkeyed fun q hq => h q (List.mem_cons_of_mem _ hq)
    refine ⟨s :: ts, .cons ?_ d, fun t ht => ?_, by rw [List.length_cons, List.length_cons, hl]⟩
    · have := h1.1
      rwa [e, settK_data] at this
    · rcases List.mem_cons.mp ht with rfl | ht
      · exact hs
      · exact hts t ht
theorem KeyAt.same {H' : Hp} {p : AK} (h : KeyAt K H p) (S : Same H H') : KeyAt K H' p := ⟨h.1.same S, h.2⟩
theorem i_setK {P : Program} {w : World} {Q : VK} {l : Addr} {ks : List AK} (hl : SqL K H l (ks.map fun p => V.ref p.1)) (hk : ∀ p ∈ ks, KeyAt K H p) (hf : ks.length < 64)
    (q : ∀ a L H1, Same H H1 → H a = none → H1 a = some (NSO P w a L) → (∀ p ∈ L, p ∈ ks) → (∀ p ∈ ks, p.2 ∈ L.map (·.2)) → (L.map (·.2)).Nodup → Q (.ref a) H1) : rSetK K P w [.ref l] H Q :=
  ⟨l, ks, rfl, hl, hk, hf, fun a L hn h1 h2 h3 => q a L _ (fun b u e => by rw [upd_ne (ne_of_none e hn)]; exact e) hn upd_same h1 h2 h3⟩
theorem i_sortK {P : Program} {w : World} {Q : VK} {a : Addr} {L : List AK} (ha : H a = some (NSO P w a L)) (hk : ∀ p ∈ L, KeyAt K H p) (ht : ∀ p ∈ L, ∃ x r, p.2.data = .tuple (x :: r)) (hal : PySem.W.AllAlike (L.map fun p => p.2.data))
    (q : ∀ (M : List AK) (m : Addr) H1, M.Perm L → Same H H1 → H m = none → H1 m = some (.lst ((ordK M).map fun p => V.ref p.1)) → Q (.ref m) H1) : rSortK K P w [.ref a] H Q :=
  ⟨a, L, rfl, ha, hk, ht, hal, fun M m hp hn => q M m _ hp (fun b u e => by rw [upd_ne (ne_of_none e hn)]; exact e) hn upd_same⟩
end
theorem data_tuple {s : Sett} : ∃ x r, (settK s).data = .tuple (x :: r) := ⟨_, _, settK_data s⟩
theorem alike_keys {L : List AK} {ss : List Sett} (h : ∀ p ∈ L, ∃ s ∈ ss, p.2 = settK s) : PySem.W.AllAlike (L.map fun p => p.2.data) := by
  intro d hd d' hd'
  obtain ⟨p, hp, rfl⟩ := List.mem_map.mp hd
  obtain ⟨p', hp', rfl⟩ := List.mem_map.mp hd'
  obtain ⟨s, hs, e⟩ := h p hp
  obtain ⟨s', hs', e'⟩ := h p' hp'
  rw [e, e', settK_data, settK_data]
  exact (form_settings ss _ (List.mem_map.mpr ⟨s, hs, rfl⟩) _ (List.mem_map.mpr ⟨s', hs', rfl⟩)).1
/-! ### how many -/
def prodN (ns : List Nat) : Nat := ns.foldr (· * ·) 1
theorem places_prod : ∀ (ms : List (Str × List Row)) (P : List (List Str)), (ms.foldl (fun ps m => stepP ps m.2) P).length = P.length * prodN (ms.map (·.2.length))
  | [], P => by simp [prodN]
  | m :: ms, P => by
    rw [List.foldl_cons, places_prod ms, stepP_len]
    show P.length * m.2.length * prodN _ = P.length * (m.2.length * prodN _)
    rw [Nat.mul_assoc]
theorem raw_len (L : Lore) : (rawSettings L).length = prodN (L.meters.map (·.2.length)) * 2 ^ L.loads.length := by
  unfold rawSettings
  rw [pair_len]
  have h1 : (placesOf L.meters).length = prodN (L.meters.map (·.2.length)) := by
    have := places_prod L.meters [[]]
    rw [List.length_singleton, Nat.one_mul] at this
    exact this
  have h2 := (choicesOf_bound (ls := L.loads) L.loads.length (Nat.le_refl _)).1
  rw [List.take_length] at h2
  rw [h1, h2]
/-! ### promises -/
/-- a shape of few settings -/
def spShapeF (K : PySem.W.Frag) : Sp := fun vs H Q _ => ∃ (p : Addr) (n : Int), vs = [.ref p] ∧ Pot H p n ∧ n < 800000 ∧
  ∀ (t s : Addr) (H' : Hp) (ns : List Nat) (l : Nat), But p H H' → Pot H' p (n + 1) → H s = none → H' t = some (.tup [.ref s, .int l]) → H' s = some (.lst (ns.map fun k : Nat => V.int k)) → 1 ≤ ns.length → ns.length ≤ 3 → (∀ k ∈ ns, 1 ≤ k ∧ k ≤ 4) → l ≤ 2 → prodN ns * 2 ^ l ≤ 16 → Q (.ref t) H'
def spDrawn (K : PySem.W.Frag) : Sp := fun vs H Q _ => ∃ (p : Addr) (w n : Int), vs = [.ref p, .int w] ∧ Pot H p n ∧ n < 700000 ∧ ∀ d H' L, But p H H' → Pot H' p (n + 1002) → LoreAt K (fun a => H a = none) H' d L → LoreOk L → (rawSettings L).length ≤ 16 → Q (.ref d) H'
/-- the settings, ascending -/
def spSettL (K : PySem.W.Frag) : Sp := fun vs H Q _ => ∃ (d : Addr) (F : Addr → Prop) (L : Lore), vs = [.ref d] ∧ LoreAt K F H d L ∧ LoreOk L ∧ (rawSettings L).length ≤ 16 ∧
  ∀ (r : Addr) (H' : Hp) (xs : List V) (ts : List Sett), Same H H' → H r = none → H' r = some (.lst xs) → DpAll K H' xs (ts.map settingD) → (∀ t ∈ ts, InB L t) → 1 ≤ ts.length → ts.length ≤ 16 → Q (.ref r) H'
theorem op_catAK {X : Cx} {K : PySem.W.Frag} (hK : X.K = K) : OpR X (binaryOp .Add) (rCatA K) := by
  subst hK
  exact op_catA
/-- a shape of few settings, in the heap -/
def ShF (H0 H : Hp) (v : V) : Prop := ∃ (t s : Addr) (ns : List Nat) (l : Nat), v = .ref t ∧ H0 s = none ∧ H t = some (.tup [.ref s, .int l]) ∧ H s = some (.lst (ns.map fun k : Nat => V.int k)) ∧ 1 ≤ ns.length ∧ ns.length ≤ 3 ∧ (∀ k ∈ ns, 1 ≤ k ∧ k ≤ 4) ∧ l ≤ 2 ∧ prodN ns * 2 ^ l ≤ 16
theorem shF {H0 H : Hp} {t s : Addr} {xs : List V} {x : V} (ns : List Nat) (l : Nat) (ht : H t = some (.tup [.ref s, x])) (hs : H s = some (.lst xs)) (h0 : H0 s = none) (ex : x = .int l) (e : xs = ns.map fun k : Nat => V.int k) (hb : (decide (1 ≤ ns.length) && decide (ns.length ≤ 3) && ns.all (fun k => decide (1 ≤ k) && decide (k ≤ 4)) && decide (l ≤ 2) && decide (prodN ns * 2 ^ l ≤ 16)) = true) : ShF H0 H (.ref t) := by
  simp only [Bool.and_eq_true, decide_eq_true_eq, List.all_eq_true] at hb
  subst ex e
  exact ⟨t, s, ns, l, rfl, h0, ht, hs, hb.1.1.1.1, hb.1.1.1.2, hb.1.1.2, hb.1.2, hb.2⟩
theorem shF_all {H0 H : Hp} {v : V} {vs : List V} (h : ShF H0 H v) (hs : ∀ x ∈ vs, ShF H0 H x) : ∀ x ∈ v :: vs, ShF H0 H x := fun x hx => by
  rcases List.mem_cons.mp hx with rfl | hx
  · exact h
  · exact hs x hx
theorem nat_nodup_len' {α : Type} [DecidableEq α] : ∀ {l D : List α}, l.Nodup → (∀ x ∈ l, x ∈ D) → l.length ≤ D.length
  | [], _, _, _ => Nat.zero_le _
  | x :: l, D, h, hd => by
    rw [List.nodup_cons] at h
    have hx := hd x List.mem_cons_self
    have ih := nat_nodup_len' (D := D.erase x) h.2 fun y hy => (List.mem_erase_of_ne (fun z => h.1 (by rw [← z]; exact hy))).mpr (hd y (List.mem_cons_of_mem _ hy))
    rw [List.length_erase_of_mem hx] at ih
    have := List.length_pos_of_mem hx
    rw [List.length_cons]
    omega
end My

/-! own layer: what is drawn in a setting, what is read, what is shown -/
namespace My
open PySem PySem.Spec PyProof.Rows L2 TL
/-! ### sizes, near -/
theorem Sz.mul2 {j k : Nat} {p q : Rat} (h : Sz j p) (h' : Sz k q) : Sz (j + k) (p * q) := by
  rw [← mul_div p q]
  refine sz_divI (dd_pos p q) (abs_mul_lt h.1 h'.1) (abs_mul_lt h.den h'.den)
theorem Sz.div2 {j k : Nat} {p q : Rat} (h : Sz j p) (h' : Sz k q) (hq : 0 < q) : Sz (j + k) (p / q) := by
  rw [← div_div hq]
  exact sz_divI (dn_pos p hq) (abs_mul_lt h.1 h'.den) (abs_mul_lt h.den h'.1)
theorem Sz.add2 {j k : Nat} {p q : Rat} (h : Sz j p) (h' : Sz k q) : Sz (j + k + 1) (p + q) := by
  rw [← add_div p q]
  refine sz_divI (dd_pos p q) (abs_add_lt (abs_mul_lt h.1 h'.den) ?_) ?_
  · have := abs_mul_lt h'.1 h.den
    rwa [Nat.add_comm k j] at this
  · exact Nat.lt_of_lt_of_le (abs_mul_lt h.den h'.den) (Nat.pow_le_pow_right (by decide) (by omega))
theorem Sz.one_add {j : Nat} {q : Rat} (h : Sz j q) (hj : 0 < j) : Sz (j + 1) (1 + q) := by
  rw [← add_div 1 q]
  have e1 : ((1 : Rat)).num = 1 := rfl
  have e2 : ((1 : Rat)).den = 1 := rfl
  rw [e1, e2, Int.one_mul]
  have hd := h.den
  have hn := h.1
  refine sz_divI ?_ ?_ ?_
  · have := den_pos q; omega
  · have := abs_add_lt hd hn
    rwa [show q.num * ((1 : Nat) : Int) = q.num by omega]
  · rw [show ((1 : Nat) : Int) * (q.den : Int) = (q.den : Int) by omega]
    exact Nat.lt_of_lt_of_le hd (Nat.pow_le_pow_right (by decide) (by omega))
theorem RatOk.sz14 {q : Rat} (h : RatOk q) : Sz 14 q := by
  have := h.num0
  have := h.n
  have := h.d
  exact ⟨by omega, by omega⟩
theorem RatOk.low {q : Rat} (h : RatOk q) {s : Nat} (hs : s ≤ 20) : Sz 20 (lowQ s q) ∧ 0 ≤ lowQ s q := by
  have z : Sz 6 (((20 - s : Int) : Rat) / ((20 : Int) : Rat)) := sz_divI (by omega) (by omega) (by omega)
  refine ⟨(h.sz14.mul2 z), ?_⟩
  have h20 : (0 : Rat) ≤ ((20 - s : Int) : Rat) / ((20 : Int) : Rat) := div_nn (by exact_mod_cast (show (0 : Int) ≤ 20 - s by omega)) (by decide)
  exact Rat.mul_nonneg h.nn h20
/-! ### the ranges of a setting, and what is drawn -/
def rowsAt (L : Lore) (s : Sett) : List Row := (L.meters.zip s.1).flatMap fun mn => mn.1.2.filter fun r => decide (r.n = mn.2)
def onAt (L : Lore) (s : Sett) : List (Str × Rat) := L.loads.filter fun l => decide (l.1 ∈ s.2)
def sumQ (qs : List Rat) : Rat := qs.foldl (· + ·) 0
def gsAt (L : Lore) (s : Sett) : List Rat := (rowsAt L s).map (·.G) ++ (onAt L s).map (·.2)
def drawQ (L : Lore) (s : Sett) : Rat := sumQ (gsAt L s)
theorem sumQ_snoc (qs : List Rat) (q : Rat) : sumQ (qs ++ [q]) = sumQ qs + q := by
  unfold sumQ
  rw [List.foldl_append]
  rfl
theorem sumQ_sz {qs : List Rat} (h : ∀ q ∈ qs, RatOk q) : Sz (1 + 15 * qs.length) (sumQ qs) ∧ 0 ≤ sumQ qs := by
  have key : ∀ n, n ≤ qs.length → Sz (1 + 15 * n) (sumQ (qs.take n)) ∧ 0 ≤ sumQ (qs.take n) := by
    intro n
    induction n with
    | zero => intro _; rw [List.take_zero]; exact ⟨⟨by decide +kernel, by decide +kernel⟩, Rat.le_refl⟩
    | succ n ih =>
      intro hn
      obtain ⟨i1, i2⟩ := ih (by omega)
      have e : qs[n]? = some qs[n] := List.getElem?_eq_getElem hn
      rw [List.take_add_one, e, Option.toList_some, sumQ_snoc]
      have ok := h _ (List.getElem_mem hn)
      refine ⟨(i1.add2 ok.sz14).mono (by omega), ?_⟩
      have := ok.nn
      grind
  have := key qs.length (Nat.le_refl _)
  rwa [List.take_length] at this
theorem filter_one {rows : List Row} (hd : (rows.map (·.n)).Nodup) (n : Str) : (rows.filter fun r => decide (r.n = n)).length ≤ 1 := by
  induction rows with
  | nil => exact Nat.zero_le _
  | cons r rows ih =>
    rw [List.map_cons, List.nodup_cons] at hd
    by_cases e : r.n = n
    · rw [List.filter_cons_of_pos (by simp [e])]
      rw [List.filter_eq_nil_iff.mpr fun x hx => by
        simp only [decide_eq_true_eq]
        exact fun z => hd.1 (by rw [e, ← z]; exact List.mem_map.mpr ⟨x, hx, rfl⟩)]
      exact Nat.le_refl _
    · rw [List.filter_cons_of_neg (by simp [e])]
      exact ih hd.2
theorem rowsAt_mem {L : Lore} {s : Sett} {r : Row} (h : r ∈ rowsAt L s) : ∃ m ∈ L.meters, r ∈ m.2 := by
  obtain ⟨mn, hmn, hr⟩ := List.mem_flatMap.mp h
  exact ⟨mn.1, (List.of_mem_zip hmn).1, (List.mem_filter.mp hr).1⟩
theorem rowsAt_ok {L : Lore} (ok : LoreOk L) {s : Sett} {r : Row} (h : r ∈ rowsAt L s) : ∃ ah, RowOk r ah := by
  obtain ⟨m, hm, hr⟩ := rowsAt_mem h
  obtain ⟨ah, rok⟩ := ok.row hm hr
  exact ⟨ah, rok⟩
theorem flat_le {α β : Type} {f : α → List β} : ∀ {l : List α}, (∀ x ∈ l, (f x).length ≤ 1) → (l.flatMap f).length ≤ l.length
  | [], _ => Nat.zero_le _
  | x :: l, h => by
    rw [List.flatMap_cons, List.length_append, List.length_cons]
    have h1 := h x List.mem_cons_self
    have h2 := flat_le fun y hy => h y (List.mem_cons_of_mem _ hy)
    omega
theorem rowsAt_len {L : Lore} (ok : LoreOk L) (s : Sett) : (rowsAt L s).length ≤ 3 := by
  refine Nat.le_trans (flat_le fun mn hmn => filter_one ((RowsOk.nd (ok.rows _ (List.of_mem_zip hmn).1).2.2).1) _) ?_
  rw [List.length_zip]
  exact Nat.le_trans (Nat.min_le_left _ _) ok.m3
theorem gsAt_ok {L : Lore} (ok : LoreOk L) (s : Sett) : (gsAt L s).length ≤ 5 ∧ ∀ q ∈ gsAt L s, RatOk q := by
  refine ⟨?_, fun q hq => ?_⟩
  · unfold gsAt
    rw [List.length_append, List.length_map, List.length_map]
    have h1 := rowsAt_len ok s
    have h2 : (onAt L s).length ≤ 2 := Nat.le_trans (List.length_filter_le _ _) ok.l2
    omega
  · rcases List.mem_append.mp hq with hq | hq
    · obtain ⟨r, hr, rfl⟩ := List.mem_map.mp hq
      obtain ⟨ah, rok⟩ := rowsAt_ok ok hr
      exact rok.g
    · obtain ⟨l, hl, rfl⟩ := List.mem_map.mp hq
      exact (ok.ln l (List.mem_filter.mp hl).1).2
theorem drawQ_sz {L : Lore} (ok : LoreOk L) (s : Sett) : Sz 76 (drawQ L s) ∧ 0 ≤ drawQ L s := by
  obtain ⟨h1, h2⟩ := gsAt_ok ok s
  obtain ⟨a, b⟩ := sumQ_sz h2
  exact ⟨a.mono (by omega), b⟩
theorem on_names {L : Lore} (ok : LoreOk L) {s : Sett} (h : InB L s) : (onAt L s).map (·.1) = s.2 := by
  have e : (onAt L s).map (·.1) = (L.loads.map (·.1)).filter fun a => decide (a ∈ s.2) := by
    unfold onAt
    rw [List.filter_map]
    rfl
  rw [e]
  have := h.sub
  have hd := ok.ld
  generalize L.loads.map (·.1) = ns at this hd
  generalize s.2 = on at this
  induction this with
  | slnil => rfl
  | @cons l1 l2 a h ih =>
    rw [List.nodup_cons] at hd
    rw [List.filter_cons_of_neg (by simp; exact fun z => hd.1 (h.mem z))]
    exact ih hd.2
  | @cons_cons l1 l2 a h ih =>
    rw [List.nodup_cons] at hd
    rw [List.filter_cons_of_pos (by simp)]
    congr 1
    have h9 := ih hd.2
    rw [← h9]
    refine List.filter_congr fun x hx => ?_
    rw [h9, decide_eq_decide]
    refine ⟨fun z => ?_, fun z => List.mem_cons_of_mem _ z⟩
    rcases List.mem_cons.mp z with e | z
    · exact absurd (e ▸ hx) hd.1
    · exact z
/-! ### what is read, what is shown -/
def readQ (v r g : Rat) : Rat := v / (1 + r * g)
theorem readQ_sz {j k l : Nat} {v r g : Rat} (hv : Sz j v) (hr : Sz k r) (hg : Sz l g) (r0 : 0 ≤ r) (g0 : 0 ≤ g) (hk : 0 < k) : Sz (j + (k + l + 1)) (readQ v r g) := hv.div2 ((hr.mul2 hg).one_add (by omega)) (one_pos r0 g0)
theorem readQ_nn {v r g : Rat} (hv : 0 ≤ v) (r0 : 0 ≤ r) (g0 : 0 ≤ g) : 0 ≤ readQ v r g := div_nn hv (one_pos r0 g0)
/-- the whole units in a reading -/
def figQ (q u : Rat) : Int := (q.num * (u.den : Int)) / ((q.den : Int) * u.num)
theorem figQ_div {q u : Rat} (hu : 0 < u) : (q / u).num / ((q / u).den : Int) = figQ q u := by
  obtain ⟨e1, e2⟩ := rat_ndI (q.num * (u.den : Int)) ((q.den : Int) * u.num) (dn_pos q hu)
  rw [div_div hu] at e1 e2
  have hb := dn_pos q hu
  unfold figQ
  rw [e1, e2]
  generalize q.num * (u.den : Int) = a at *
  generalize (q.den : Int) * u.num = b at *
  have g0 : (0 : Int) < ((Nat.gcd a.natAbs b.natAbs : Nat) : Int) := by
    have := Nat.gcd_pos_of_pos_right a.natAbs (show 0 < b.natAbs by omega)
    omega
  have da : ((Nat.gcd a.natAbs b.natAbs : Nat) : Int) ∣ a := Int.ofNat_dvd_left.mpr (Nat.gcd_dvd_left _ _)
  have db : ((Nat.gcd a.natAbs b.natAbs : Nat) : Int) ∣ b := Int.ofNat_dvd_left.mpr (Nat.gcd_dvd_right _ _)
  generalize ((Nat.gcd a.natAbs b.natAbs : Nat) : Int) = g at *
  obtain ⟨x, rfl⟩ := da
  obtain ⟨y, rfl⟩ := db
  rw [Int.mul_ediv_cancel_left _ (by omega), Int.mul_ediv_cancel_left _ (by omega), Int.mul_ediv_mul_of_pos _ _ g0]
theorem figQ_sz {j k : Nat} {q u : Rat} (h : Sz j q) (h' : Sz k u) : (figQ q u).natAbs < 2 ^ (j + k) := by
  unfold figQ
  have h1 := abs_mul_lt h.1 h'.den
  refine Nat.lt_of_le_of_lt ?_ h1
  exact Int.natAbs_ediv_le_natAbs _ _
def shownQ (L : Lore) (s : Sett) (q : Rat) : List Int := (rowsAt L s).map fun r => figQ q r.S
theorem sho_intW {i : Int} (h : i.natAbs < 2 ^ 280) : Sho 0 0 (.int i) := by
  have hl : i.natAbs.log2 < 1920 := Nat.lt_of_lt_of_le (log_lt (k := 280) (by decide) h) (by decide)
  refine ⟨?_, rfl, Nat.le_refl _, ?_, Nat.le_refl _⟩
  · unfold PyData.showable; exact decide_eq_true hl
  · unfold PyData.leavesShort
    refine decide_eq_true ?_
    have e : (PyData.int i).shown = Str.ofString i.repr := by simp [PyData.shown]
    rw [e, PySem.ofString_length]
    have := int_repr_le (k := 280) (by decide) h
    omega
theorem sho_ratW {q : Rat} {j : Nat} (h : Sz j q) (hj : j ≤ 280) : Sho 1 2 (ratD q) := by
  have h := h.mono hj
  have := sho_tup (k := 0) (b := 0) (ds := [.int q.num, .int (q.den : Int)]) fun d hd => by
    simp only [List.mem_cons, List.not_mem_nil, or_false] at hd
    rcases hd with rfl | rfl
    · exact sho_intW h.1
    · exact sho_intW h.den
  exact this.mono (by decide) (Nat.le_refl _)
/-! ### promises -/
def spRangesOf (K : PySem.W.Frag) (C : Addr) : Sp := fun vs H Q _ => ∃ (b : Addr) (L : Lore) (x : V) (s : Sett), vs = [.ref b, x] ∧ BenAt K C H b L ∧ LoreOk L ∧ Dp K H x (settingD s) ∧ InB L s ∧
  ∀ (r : Addr) (H' : Hp) (xs : List V), Same H H' → H r = none → H' r = some (.lst xs) → DpAll K H' xs ((rowsAt L s).map fun r => rowD (lowR L.spread r)) → Q (.ref r) H'
def spDrawOf (K : PySem.W.Frag) (C : Addr) : Sp := fun vs H Q _ => ∃ (b : Addr) (L : Lore) (x : V) (s : Sett), vs = [.ref b, x] ∧ BenAt K C H b L ∧ LoreOk L ∧ Dp K H x (settingD s) ∧ InB L s ∧
  ∀ (p : Addr) (H' : Hp), Same H H' → SqT K H' p (rat (drawQ L s)) → Q (.ref p) H'
def spReadsB (K : PySem.W.Frag) (C S : Addr) : Sp := fun vs H Q _ => ∃ (b so : Addr) (L : Lore) (x : V) (s : Sett) (v r : Rat), vs = [.ref b, x, .ref so] ∧ BenAt K C H b L ∧ LoreOk L ∧ Dp K H x (settingD s) ∧ InB L s ∧ SrcAt K S H so v r ∧ Sz 120 v ∧ Sz 14 r ∧
  ∀ (p : Addr) (H' : Hp), Same H H' → SqT K H' p (rat (readQ v r (drawQ L s))) → Q (.ref p) H'
def spShownB (K : PySem.W.Frag) (C S : Addr) : Sp := fun vs H Q _ => ∃ (b so : Addr) (L : Lore) (x : V) (s : Sett) (v r : Rat), vs = [.ref b, x, .ref so] ∧ BenAt K C H b L ∧ LoreOk L ∧ Dp K H x (settingD s) ∧ InB L s ∧ SrcAt K S H so v r ∧ Sz 120 v ∧ Sz 14 r ∧
  ∀ (p : Addr) (H' : Hp), Same H H' → SqT K H' p ((shownQ L s (readQ v r (drawQ L s))).map V.int) → Q (.ref p) H'
def spRowsL (K : PySem.W.Frag) : Sp := fun vs H Q _ => ∃ (d : Addr) (F : Addr → Prop) (L : Lore) (x : V) (s : Sett), vs = [.ref d, x] ∧ LoreAt K F H d L ∧ LoreOk L ∧ Dp K H x (settingD s) ∧ InB L s ∧
  ∀ (r : Addr) (H' : Hp) (xs : List V), Same H H' → H r = none → H' r = some (.lst xs) → DpAll K H' xs ((rowsAt L s).map rowD) → Q (.ref r) H'
def spDrawL (K : PySem.W.Frag) : Sp := fun vs H Q _ => ∃ (d : Addr) (F : Addr → Prop) (L : Lore) (x : V) (s : Sett), vs = [.ref d, x] ∧ LoreAt K F H d L ∧ LoreOk L ∧ Dp K H x (settingD s) ∧ InB L s ∧
  ∀ (p : Addr) (H' : Hp), Same H H' → SqT K H' p (rat (drawQ L s)) → Q (.ref p) H'
/-- a drawn source, as a pair of ratios -/
def OneAt (K : PySem.W.Frag) (H : Hp) (t : Addr) (v r : Rat) : Prop := ∃ a b, SqT K H t [.ref a, .ref b] ∧ SqT K H a (rat v) ∧ SqT K H b (rat r) ∧ 0 ≤ v ∧ 0 ≤ r ∧ Sz 120 v ∧ Sz 14 r
theorem OneAt.same {K : PySem.W.Frag} {H H' : Hp} {t : Addr} {v r : Rat} (h : OneAt K H t v r) (S : Same H H') : OneAt K H' t v r := by
  obtain ⟨a, b, h1, h2, h3, h4⟩ := h
  exact ⟨a, b, S.seqT h1, S.seqT h2, S.seqT h3, h4⟩
def spReadL (K : PySem.W.Frag) : Sp := fun vs H Q _ => ∃ (g t : Addr) (v r q : Rat), vs = [.ref g, .ref t] ∧ SqT K H g (rat q) ∧ OneAt K H t v r ∧ Sz 76 q ∧ 0 ≤ q ∧
  ∀ (p : Addr) (H' : Hp), Same H H' → H p = none → H' p = some (.tup (rat (readQ v r q))) → Q (.ref p) H'
def spShownL (K : PySem.W.Frag) : Sp := fun vs H Q _ => ∃ (d t : Addr) (F : Addr → Prop) (L : Lore) (x : V) (s : Sett) (v r : Rat), vs = [.ref d, x, .ref t] ∧ LoreAt K F H d L ∧ LoreOk L ∧ Dp K H x (settingD s) ∧ InB L s ∧ OneAt K H t v r ∧
  ∀ (p : Addr) (H' : Hp), Same H H' → SqT K H' p ((shownQ L s (readQ v r (drawQ L s))).map V.int) → Q (.ref p) H'
/-- a source is drawn -/
def spSrcDraw (K : PySem.W.Frag) : Sp := fun vs H Q _ => ∃ (p : Addr) (n : Int), vs = [.ref p] ∧ Pot H p n ∧ n < 700000 ∧ ∀ t H' v r, But p H H' → Pot H' p (n + 20) → OneAt K H' t v r → Q (.ref t) H'
def spNearDraw (K : PySem.W.Frag) : Sp := fun vs H Q _ => ∃ (p d : Addr) (n : Int) (F : Addr → Prop) (L : Lore), vs = [.ref p, .ref d] ∧ Pot H p n ∧ n < 700000 ∧ LoreAt K F H d L ∧ ¬ F p ∧ LoreOk L ∧ (rawSettings L).length ≤ 16 ∧ ∀ t H' v r, But p H H' → Pot H' p (n + 30) → OneAt K H' t v r → Q (.ref t) H'
end My

/-! own layer: zip of two sequences, each a list or a tuple -/
namespace My
open PySem PySem.Spec PyProof.Rows L2 TL
def SqX (K : PySem.W.Frag) : Bool → Hp → Addr → List V → Prop
  | true => fun H a xs => SqT K H a xs
  | false => fun H a xs => SqL K H a xs
def IterX : Bool → Heap → Addr → Addr → Nat → Prop
  | true => fun h i a k => h.IsTupleIter i a k
  | false => fun h i a k => h.IsListIter i a k
def SeqX : Bool → Heap → Addr → Array Value → Prop
  | true => fun h a xs => h.IsTuple a xs
  | false => fun h a xs => h.IsList a xs
def itO : Bool → Addr → Obj
  | true => fun a => { cls := .type "tuple_iterator", data := .fields #[.ref a, .int 0 0] }
  | false => fun a => { cls := .type "list_iterator", data := .fields #[.ref a, .int 0 0] }
theorem drawsX {prog : Program} {w : World} {A : Around} (hh : A.handled = none) (t : Bool) (it l : Addr) (hne : l ≠ it) (items : Array Value) :
    Draws prog w A it [it, l] items.size (fun i v => items[i]? = some v) (fun i h => IterX t h it l i ∧ SeqX t h l items) := by
  cases t
  · exact Draws.list hh it l hne items
  · exact Draws.tuple hh it l hne items
theorem beginsX (t : Bool) (l : Addr) (items : Array Value) : Begins (.ref l) (itO t l) fun h => SeqX t h l items := by
  cases t
  · exact begins_list l items
  · exact begins_tuple l items
theorem iterX_new {h : Heap} {i a : Addr} (t : Bool) (e : h.get? i = some (itO t a)) : IterX t h i a 0 := by
  cases t
  · exact ⟨_, e, rfl, rfl⟩
  · exact ⟨_, e, rfl, rfl⟩
theorem iterX_some {h : Heap} {i a : Addr} {k : Nat} {t : Bool} (q : IterX t h i a k) : ∃ o, h.get? i = some o ∧ ∀ v, o.data ≠ .cell v := by
  cases t
  · obtain ⟨o, e, _, d⟩ := q; exact ⟨o, e, fun v z => by rw [d] at z; cases z⟩
  · obtain ⟨o, e, _, d⟩ := q; exact ⟨o, e, fun v z => by rw [d] at z; cases z⟩
theorem iterX_at {h h' : Heap} {i a : Addr} {k : Nat} {t : Bool} (q : IterX t h i a k) (kp : ∀ o, h.get? i = some o → h'.get? i = some o) : IterX t h' i a k := by
  cases t
  · exact Heap.IsListIter.at q kp
  · exact Heap.IsTupleIter.at q kp
theorem seqX_of {X : Cx} {pins : List (Addr × Obj)} {σ : L2.St} {H : Hp} {s : Shared} {a : Addr} {xs : List V} {t : Bool} (I : Inv X pins σ H s) (h : SqX X.K t H a xs) : ∃ its, Vals xs its ∧ SeqX t s.heap a its.toArray ∧ a < s.heap.objs.size := by
  cases t
  · obtain ⟨its, rv, p, _⟩ := I.list h
    exact ⟨its, rv, p.isList, p.lt⟩
  · obtain ⟨its, rv, p, _⟩ := I.tuple h
    obtain ⟨o, ho, _⟩ := id p
    exact ⟨its, rv, p, Heap.lt_size ho⟩
theorem seqX_inj {X : Cx} {pins : List (Addr × Obj)} {σ : L2.St} {H : Hp} {s : Shared} {a : Addr} {xs ys : List V} {t : Bool} (I : Inv X pins σ H s) (h : SqX X.K t H a xs) (h' : SqX X.K t H a ys) : xs = ys := by
  cases t
  · exact I.list_inj h h'
  · exact I.tuple_inj h h'
/-- the sequences at a and b as they stand at each turn, the items in new pairs -/
def ItzX (K : PySem.W.Frag) (t u : Bool) (a b : Addr) : It :=
  ⟨fun i H => ∃ (xs ys : List V) (x y : V), SqX K t H a xs ∧ SqX K u H b ys ∧ xs[i]? = some x ∧ ys[i]? = some y,
    fun i H v H' => ∃ T x y, v = .ref T ∧ H T = none ∧ H' = upd H T (.tup [x, y]) ∧ (∀ xs, SqX K t H a xs → xs[i]? = some x) ∧ ∀ ys, SqX K u H b ys → ys[i]? = some y,
    fun i H => ∃ xs ys : List V, SqX K t H a xs ∧ SqX K u H b ys ∧ i ≤ xs.length ∧ i ≤ ys.length ∧ (i = xs.length ∨ i = ys.length)⟩
theorem sepX {z TI TO i1 i2 a b : Addr} (D : ZipApart z TI TO i1 i2 a b) : ZipSep2 z TI TO i1 i2 [i1, a] [i2, b] where
  TIz := D.TIz
  TOz := D.TOz
  TITO := D.TITO
  TIi1 := D.TIi1
  mem1 := List.mem_cons_self
  zf1 := fun h => (List.mem_cons.mp h).elim (fun e => D.i1z e.symm) fun h => (fun e => D.l1z e.symm) (List.mem_singleton.mp h)
  Tf1 := fun h => (List.mem_cons.mp h).elim (fun e => D.TOi1 e) fun h => (fun e => D.l1TO e.symm) (List.mem_singleton.mp h)
  TIi2 := D.TIi2
  mem2 := List.mem_cons_self
  zf2 := fun h => (List.mem_cons.mp h).elim (fun e => D.i2z e.symm) fun h => (fun e => D.l2z e.symm) (List.mem_singleton.mp h)
  Tf2 := fun h => (List.mem_cons.mp h).elim (fun e => D.TOi2 e) fun h => (fun e => D.l2TO e.symm) (List.mem_singleton.mp h)
  sep1_2 := fun h => (List.mem_cons.mp h).elim (fun e => D.i12 e) fun h => (fun e => D.l2i1 e.symm) (List.mem_singleton.mp h)
  sep2_1 := fun h => (List.mem_cons.mp h).elim (fun e => D.i12 e.symm) fun h => (fun e => D.l1i2 e.symm) (List.mem_singleton.mp h)
theorem turn_zipX {P : Program} {w : World} {K : PySem.W.Frag} {elts : List Expr} {kk : Nat} {tpos : Pos} {t u : Bool} {a b z TI TO i1 i2 : Addr} (D : ZipApart z TI TO i1 i2 a b) :
    Turn P w K (.Tuple elts kk tpos) (ItzX K t u a b) [z, TI, TO, i1, i2] z (fun i h => IsZip h z TI TO .none ∧ IsTupOf2 h TI (.ref i1) (.ref i2) ∧ (∃ x y, IsTupOf2 h TO x y) ∧ IterX t h i1 a i ∧ IterX u h i2 b i) where
  mem := List.mem_cons_self
  obj := fun i h st c hc => by
    obtain ⟨hz, hTI, ⟨x, y, hTO⟩, h1, h2⟩ := st
    simp only [List.mem_cons, List.not_mem_nil, or_false] at hc
    rcases hc with q | q | q | q | q
    · rw [q]; exact ⟨_, hz, fun v q => nomatch q⟩
    · rw [q]; exact ⟨_, hTI, fun v q => nomatch q⟩
    · rw [q]; exact ⟨_, hTO, fun v q => nomatch q⟩
    · rw [q]; exact iterX_some h1
    · rw [q]; exact iterX_some h2
  keep := fun i h h' st k => by
    obtain ⟨hz, hTI, ⟨x, y, hTO⟩, h1, h2⟩ := st
    exact ⟨k z (by simp) _ hz, k TI (by simp) _ hTI, ⟨x, y, k TO (by simp) _ hTO⟩, iterX_at h1 fun o q => k i1 (by simp) o q, iterX_at h2 fun o q => k i2 (by simp) o q⟩
  item := by
    intro X hP hw hK hc i pins s σ H E I hf st hg
    subst hP hw hK
    obtain ⟨hz, hTI, ⟨x0, y0, hTO⟩, h1, h2⟩ := st
    obtain ⟨xs, ys, x, y, hqx, hqy, hx, hy⟩ := hg
    obtain ⟨its, rv, p, _⟩ := seqX_of I hqx
    obtain ⟨its2, rv2, p2, _⟩ := seqX_of I hqy
    obtain ⟨v, hv, rv1⟩ := rv.get hx
    obtain ⟨v2, hv2, rv2'⟩ := rv2.get hy
    have hzl : z < s.heap.objs.size := Heap.lt_size hz
    have l1 : i < its.toArray.size := by have := (List.getElem?_eq_some_iff.mp hv).1; rwa [List.size_toArray]
    have l2 : i < its2.toArray.size := by have := (List.getElem?_eq_some_iff.mp hv2).1; rwa [List.size_toArray]
    refine wpAny_pyNext_zipD2_item (sepX D) (drawsX (show X.A.in1.handled = none from I.ok.hd hc) t i1 a D.l1i1 its.toArray) (drawsX (show X.A.in1.handled = none from I.ok.hd hc) u i2 b D.l2i2 its2.toArray) hz hTI hTO ⟨h1, p⟩ ⟨h2, p2⟩ l1 l2 fun u1 u2 h' tk e1 e2 z' TO' st1 st2 hT hsz hk => ?_
    have eu1 : u1 = v := Option.some.inj (e1.symm.trans ((List.getElem?_toArray ..).trans hv))
    have eu2 : u2 = v2 := Option.some.inj (e2.symm.trans ((List.getElem?_toArray ..).trans hv2))
    subst eu1 eu2
    refine ⟨_, rfl, wpAny_letOwnedTupleGo_zip (s := { s with heap := h', toks := tk }) z' fun h'' z'' sb => ?_⟩
    have hT2 : h''.get? s.heap.objs.size = some { cls := .type "tuple", data := .seq #[u1, u2] } := (sb.2 _ (Nat.ne_of_gt hzl)).trans hT
    have new : ObjOk X.prog X.w (upd H s.heap.objs.size (.tup [x, y])) h'' s.heap.objs.size (.tup [x, y]) :=
      ⟨by show 2 ≤ sizeLine; decide, [u1, u2], .cons rv1 (.cons rv2' .nil), ⟨_, hT2, rfl, _, rfl⟩⟩
    have I1 : Inv X pins σ (upd H s.heap.objs.size (.tup [x, y])) { s with heap := h'', toks := tk } :=
      I.turnedNew (t' := tk) (ch := [z, TI, TO, i1, i2]) (fun c o hb q => (sb.2 c (fun q' => hb (by simp [q']))).trans (hk c o (fun q' => hb (by simp [q'])) (fun q' => hb (by simp [q'])) (fun q' => hb (by simp [q'])) (fun q' => hb (by simp [q'])) q)) hf (Nat.le_refl _) new
    refine ⟨.ref s.heap.objs.size, _, I1, rfl, ⟨_, x, y, rfl, I.hok.fresh (Nat.le_refl _), rfl, fun l hl => by rw [seqX_inj I hl hqx]; exact hx, fun l hl => by rw [seqX_inj I hl hqy]; exact hy⟩, ⟨z'', ?_, ⟨u1, u2, ?_⟩, ?_, ?_⟩, fun c hcm => ?_⟩
    · exact (sb.2 _ D.TIz).trans (hk _ _ D.TIz D.TITO D.TIi1 D.TIi2 hTI)
    · exact (sb.2 _ D.TOz).trans TO'
    · exact iterX_at st1.1 fun o q => (sb.2 _ D.i1z).trans q
    · exact iterX_at st2.1 fun o q => (sb.2 _ D.i2z).trans q
    · have hlt : c < s.heap.objs.size := by
        simp only [List.mem_cons, List.not_mem_nil, or_false] at hcm
        rcases hcm with q | q | q | q | q
        · rw [q]; exact hzl
        · rw [q]; exact Heap.lt_size hTI
        · rw [q]; exact Heap.lt_size hTO
        · rw [q]; obtain ⟨_, e, _⟩ := iterX_some h1; exact Heap.lt_size e
        · rw [q]; obtain ⟨_, e, _⟩ := iterX_some h2; exact Heap.lt_size e
      rw [upd_ne (Nat.ne_of_lt hlt)]
      exact (hf c hcm).1
  done := by
    intro X hP hw hK hc i pins s σ H E I hf st hg
    subst hP hw hK
    obtain ⟨hz, hTI, ⟨x0, y0, hTO⟩, h1, h2⟩ := st
    obtain ⟨xs, ys, hqx, hqy, hl1, hl2, hend⟩ := hg
    obtain ⟨its, rv, p, _⟩ := seqX_of I hqx
    obtain ⟨its2, rv2, p2, _⟩ := seqX_of I hqy
    have l1 := rv.length
    have l2 := rv2.length
    refine wpAny_pyNext_zipD2_end (i := i) (sepX D) (drawsX (show X.A.in1.handled = none from I.ok.hd hc) t i1 a D.l1i1 its.toArray) (drawsX (show X.A.in1.handled = none from I.ok.hd hc) u i2 b D.l2i2 its2.toArray) hz hTI hTO ⟨h1, p⟩ ⟨h2, p2⟩ (by rw [List.size_toArray]; omega) (by rw [List.size_toArray]; omega) (by rw [List.size_toArray, List.size_toArray]; omega) fun h' tk hk => ⟨rfl, I.turnedL (t' := tk) (ch := [z, TI, TO, i1, i2]) (fun c o hb q =>
      hk c o (fun q' => hb (by simp [q'])) (fun q' => hb (by simp [q'])) (fun q' => hb (by simp [q'])) (fun q' => hb (by simp [q'])) q) hf⟩
  self := fun A i s Q E st h => wpAny_pyIter_zip st.1 h
def iZipX (K : PySem.W.Frag) (ta : TA) : TI := fun σ H R => ta σ H fun vs H1 => ∃ (t u : Bool) (a b : Addr) (xs ys : List V), vs = [.ref a, .ref b] ∧ SqX K t H1 a xs ∧ SqX K u H1 b ys ∧ R (ItzX K t u a b) H1
theorem pi_zipX {X : Cx} {e e2 : Expr} {ta : TA} {p pos tpos : Pos} {elts : List Expr} {kk : Nat} (hg : Gl X "zip") (hm : X.mg "zip" = none) (ha : PA X [e, e2] ta)
    (hs : starEach [e, e2] X.env = (false, eval e X.env) :: starEach [e2] X.env := by rfl) (hpl : (backTo pos (starEach [e2] X.env)).any (·.1) = false := by rfl) :
    PI X (.Tuple elts kk tpos) (.Call (.Name "zip" p) [e, e2] [] pos) (iZipX X.K ta) := by
  refine ⟨fun pins s σ H R I h => ?_⟩
  refine Call_ (ld_blt I hg hm PyProof.Rows.boot_zip (PyProof.Rows.callWith_type1 (thn (ha.run pos pins s σ H _ I h) fun us s1 ⟨vs, H1, I1, r1, q1⟩ => ?_) hs hpl))
  obtain ⟨t, u, a, b, xs, ys, rfl, hqx, hqy, q⟩ := q1
  obtain ⟨_, _, rfl, r, r'⟩ := vals2 r1
  cases r
  cases r'
  have fresh5 : ∀ c, c ∈ [s1.heap.objs.size + 4, s1.heap.objs.size + 2, s1.heap.objs.size + 3, s1.heap.objs.size, s1.heap.objs.size + 1] → FpOk X pins H1 c := fun c hcm => by
    have hle : s1.heap.objs.size ≤ c := by
      simp only [List.mem_cons, List.not_mem_nil, or_false] at hcm
      have hle : c = s1.heap.objs.size + 4 ∨ c = s1.heap.objs.size + 2 ∨ c = s1.heap.objs.size + 3 ∨ c = s1.heap.objs.size ∨ c = s1.heap.objs.size + 1 := hcm
      rcases hle with z | z | z | z | z <;> rw [z] <;> first | exact Nat.le_refl _ | exact Nat.le_add_right _ _
    exact I1.fpOk hle (I1.hok.fresh hle)
  obtain ⟨its, rv, p1, lt1⟩ := seqX_of I1 hqx
  obtain ⟨its2, rv2, p2, lt2⟩ := seqX_of I1 hqy
  refine zip_begins2 (beginsX t a its.toArray) (beginsX u b its2.toArray) p1 p2 fun h' hz hTI hTO h1 h2 hsz hk => wpAny_pyIter_zip hz ?_
  have I2 : Inv X pins σ H1 { s1 with heap := h' } := I1.kept (t' := s1.toks) hk
  exact ⟨s1.heap.objs.size + 4, [s1.heap.objs.size + 4, s1.heap.objs.size + 2, s1.heap.objs.size + 3, s1.heap.objs.size, s1.heap.objs.size + 1], _, _, H1, rfl, I2, turn_zipX (PySem.W.ktu_apart s1.heap.objs.size a b lt1 lt2), ⟨hz, hTI, ⟨_, _, hTO⟩, iterX_new t h1, iterX_new u h2⟩, fresh5, q⟩
/-! ### in words -/
def ZipXQ (K : PySem.W.Frag) (vs : List V) (H : Hp) (R : It → Hp → Prop) : Prop := ∃ (t u : Bool) (a b : Addr) (xs ys : List V), vs = [.ref a, .ref b] ∧ SqX K t H a xs ∧ SqX K u H b ys ∧ R (ItzX K t u a b) H
section
variable {K : PySem.W.Frag} {t u : Bool} {a b : Addr} {xs ys : List V} {σ : L2.St} {H : Hp}
theorem i_zipX {ta : TA} {R : It → Hp → Prop} (h : ta σ H fun vs H1 => ZipXQ K vs H1 R) : iZipX K ta σ H R := h
theorem i_zipXv {R : It → Hp → Prop} (t u : Bool) (ha : SqX K t H a xs) (hb : SqX K u H b ys) (h : R (ItzX K t u a b) H) : ZipXQ K [.ref a, .ref b] H R := ⟨t, u, a, b, xs, ys, rfl, ha, hb, h⟩
theorem zipX_yld {i : Nat} {x : V} {H1 : Hp} (ha : SqX K t H a xs) (hb : SqX K u H b ys) (hy : (ItzX K t u a b).yld i H x H1) : ∃ T v w, x = .ref T ∧ H T = none ∧ Same H H1 ∧ H1 T = some (.tup [v, w]) ∧ xs[i]? = some v ∧ ys[i]? = some w := by
  obtain ⟨T, v, w, rfl, hT, rfl, f1, f2⟩ := hy
  exact ⟨T, v, w, rfl, hT, fun c o e => by rw [upd_ne (ne_of_none e hT)]; exact e, upd_same, f1 xs ha, f2 ys hb⟩
/-- for .. in zip(a, b), as many of both -/
theorem forq_zipX {g : TG} {tb : TS} {D : Ends} (hlen : xs.length = ys.length) (Pv : Nat → L2.St → Hp → Prop) (h0 : Pv 0 σ H) (hl : ∀ i σ' H', Pv i σ' H' → SqX K t H' a xs ∧ SqX K u H' b ys)
    (hs : ∀ (i : Nat) (x y : V) (T : Addr) (σ' : L2.St) (H' H1 : Hp), xs[i]? = some x → ys[i]? = some y → Pv i σ' H' → H' T = none → Same H' H1 → H1 T = some (.tup [x, y]) → g (.ref T) σ' H1 fun σ2 H2 => tb { D with nx := Pv (i + 1), ct := Pv (i + 1), bk := D.nx } σ2 H2)
    (hd : ∀ σ' H', Pv xs.length σ' H' → D.nx σ' H') : ForQ (ItzX K t u a b) g tb D σ H := by
  refine forq_n (n := xs.length) Pv h0 (fun i σ' H' hi q => ?_) (fun σ' H' q => ?_) (fun i v σ' H' H1 hi q hy => ?_) hd
  · obtain ⟨q1, q2⟩ := hl _ _ _ q
    exact ⟨xs, ys, _, _, q1, q2, List.getElem?_eq_getElem hi, List.getElem?_eq_getElem (by omega)⟩
  · obtain ⟨q1, q2⟩ := hl _ _ _ q
    exact ⟨xs, ys, q1, q2, Nat.le_refl _, by omega, .inl rfl⟩
  · obtain ⟨q1, q2⟩ := hl _ _ _ q
    obtain ⟨T, x, y, rfl, hT, S, eT, e1, e2⟩ := zipX_yld q1 q2 hy
    exact hs i x y T σ' H' H1 e1 e2 q hT S eT
end
/-! ### the ranges of a setting, one meter after another -/
def rowsTo (L : Lore) (s : Sett) (i : Nat) : List Row := ((L.meters.zip s.1).take i).flatMap fun mn => mn.1.2.filter fun r => decide (r.n = mn.2)
theorem rowsTo_all {L : Lore} {s : Sett} (h : s.1.length = L.meters.length) : rowsTo L s L.meters.length = rowsAt L s := by
  unfold rowsTo rowsAt
  rw [List.take_of_length_le (by rw [List.length_zip]; omega)]
theorem rowsTo_succ {L : Lore} {s : Sett} {i : Nat} {m : Str × List Row} {n : Str} (hm : L.meters[i]? = some m) (hn : s.1[i]? = some n) : rowsTo L s (i + 1) = rowsTo L s i ++ m.2.filter fun r => decide (r.n = n) := by
  unfold rowsTo
  have e : (L.meters.zip s.1)[i]? = some (m, n) := List.getElem?_zip_eq_some.mpr ⟨hm, hn⟩
  rw [List.take_add_one, e, Option.toList_some, List.flatMap_append]
  simp
theorem filt_succ {rows : List Row} {n : Str} {q : Nat} {r : Row} (h : rows[q]? = some r) : ((rows.take (q + 1)).filter fun r => decide (r.n = n)) = ((rows.take q).filter fun r => decide (r.n = n)) ++ (if r.n = n then [r] else []) := by
  rw [List.take_add_one, h, List.filter_append, Option.toList_some]
  congr 1
  by_cases e : r.n = n
  · rw [if_pos e, List.filter_cons_of_pos (by simp [e])]; rfl
  · rw [if_neg e, List.filter_cons_of_neg (by simp [e])]; rfl
/-! ### sums, one after another -/
theorem sumQ_take {qs : List Rat} {i : Nat} {q : Rat} (h : qs[i]? = some q) : sumQ (qs.take (i + 1)) = sumQ (qs.take i) + q := by
  rw [List.take_add_one, h, Option.toList_some, sumQ_snoc]
theorem sumQ_more {qs rs : List Rat} {i : Nat} {q : Rat} (h : rs[i]? = some q) : sumQ (qs ++ rs.take (i + 1)) = sumQ (qs ++ rs.take i) + q := by
  rw [List.take_add_one, h, Option.toList_some, ← List.append_assoc, sumQ_snoc]
theorem sumQ_part {qs : List Rat} (h : ∀ q ∈ qs, RatOk q) (hl : qs.length ≤ 5) : Sz 76 (sumQ qs) ∧ 0 ≤ sumQ qs := by
  obtain ⟨a, b⟩ := sumQ_sz h
  exact ⟨a.mono (by omega), b⟩
theorem sum_pre {L : Lore} (ok : LoreOk L) (s : Sett) (i : Nat) : Sz 76 (sumQ (((rowsAt L s).map (·.G)).take i)) ∧ 0 ≤ sumQ (((rowsAt L s).map (·.G)).take i) := by
  obtain ⟨h1, h2⟩ := gsAt_ok ok s
  have hl : (((rowsAt L s).map (·.G)).take i).length ≤ 3 := by
    have := rowsAt_len ok s
    rw [List.length_take, List.length_map]
    omega
  refine sumQ_part (fun q hq => h2 q ?_) (by omega)
  unfold gsAt
  exact List.mem_append_left _ (List.mem_of_mem_take hq)
theorem sum_post {L : Lore} (ok : LoreOk L) (s : Sett) (i : Nat) : Sz 76 (sumQ (((rowsAt L s).map (·.G)) ++ ((onAt L s).map (·.2)).take i)) ∧ 0 ≤ sumQ (((rowsAt L s).map (·.G)) ++ ((onAt L s).map (·.2)).take i) := by
  obtain ⟨h1, h2⟩ := gsAt_ok ok s
  unfold gsAt at h1 h2
  refine sumQ_part (fun q hq => h2 q ?_) ?_
  · rcases List.mem_append.mp hq with hq | hq
    · exact List.mem_append_left _ hq
    · exact List.mem_append_right _ (List.mem_of_mem_take hq)
  · rw [List.length_append] at h1 ⊢
    rw [List.length_take]
    omega
theorem sum_filt {L : Lore} (ok : LoreOk L) (s : Sett) (i : Nat) : Sz 76 (sumQ ((rowsAt L s).map (·.G) ++ ((L.loads.take i).filter fun l => decide (l.1 ∈ s.2)).map (·.2))) := by
  obtain ⟨h1, h2⟩ := gsAt_ok ok s
  unfold gsAt at h1 h2
  have sub : ∀ l ∈ (L.loads.take i).filter (fun l => decide (l.1 ∈ s.2)), l ∈ onAt L s := fun l hl => by
    obtain ⟨a, b⟩ := List.mem_filter.mp hl
    exact List.mem_filter.mpr ⟨List.mem_of_mem_take a, b⟩
  have len : ((L.loads.take i).filter fun l => decide (l.1 ∈ s.2)).length ≤ 2 := by
    refine Nat.le_trans (List.length_filter_le _ _) ?_
    rw [List.length_take]
    have := ok.l2
    omega
  refine (sumQ_part (fun q hq => h2 q ?_) ?_).1
  · rcases List.mem_append.mp hq with hq | hq
    · exact List.mem_append_left _ hq
    · obtain ⟨l, hl, rfl⟩ := List.mem_map.mp hq
      exact List.mem_append_right _ (List.mem_map.mpr ⟨l, sub l hl, rfl⟩)
  · rw [List.length_append, List.length_map, List.length_map]
    have := rowsAt_len ok s
    omega
theorem sum_filt_succ {L : Lore} {s : Sett} {i : Nat} {l : Str × Rat} {qs : List Rat} (h : L.loads[i]? = some l) : sumQ (qs ++ ((L.loads.take (i + 1)).filter fun l => decide (l.1 ∈ s.2)).map (·.2)) = if l.1 ∈ s.2 then sumQ (qs ++ ((L.loads.take i).filter fun l => decide (l.1 ∈ s.2)).map (·.2)) + l.2 else sumQ (qs ++ ((L.loads.take i).filter fun l => decide (l.1 ∈ s.2)).map (·.2)) := by
  rw [List.take_add_one, h, List.filter_append, Option.toList_some, List.map_append, ← List.append_assoc]
  by_cases e : l.1 ∈ s.2
  · rw [if_pos e, List.filter_cons_of_pos (by simp [e]), List.filter_nil, List.map_cons, List.map_nil, sumQ_snoc]
  · rw [if_neg e, List.filter_cons_of_neg (by simp [e]), List.filter_nil, List.map_nil, List.append_nil]
/-- a ratio of small numbers -/
theorem small_pair {i d : Int} (i0 : 0 ≤ i) (i1 : i < 16000) (d0 : 0 < d) (d1 : d < 16000) : Sz 14 ((i : Rat) / (d : Rat)) ∧ 0 ≤ (i : Rat) / (d : Rat) :=
  ⟨sz_divI d0 (by omega) (by omega), div_nn (by exact_mod_cast i0) (by exact_mod_cast d0)⟩
theorem rat17 : rat (1 / 7) = [.int 1, .int 7] := by
  unfold rat
  rw [show ((1 / 7 : Rat)).num = 1 by decide +kernel, show ((1 / 7 : Rat)).den = 7 by decide +kernel]
  rfl
theorem rat67 : rat (6 / 7) = [.int 6, .int 7] := by
  unfold rat
  rw [show ((6 / 7 : Rat)).num = 6 by decide +kernel, show ((6 / 7 : Rat)).den = 7 by decide +kernel]
  rfl
theorem vol_more {vol : Rat} (zv : Sz 111 vol) (v0 : 0 ≤ vol) : (Sz 120 (vol + 1 / 7) ∧ 0 ≤ vol + 1 / 7) ∧ Sz 120 (vol * (6 / 7)) ∧ 0 ≤ vol * (6 / 7) := by
  have h7 : Sz 3 (1 / 7) := ⟨by decide +kernel, by decide +kernel⟩
  have h6 : Sz 3 (6 / 7) := ⟨by decide +kernel, by decide +kernel⟩
  have n7 : (0 : Rat) ≤ 1 / 7 := by decide +kernel
  have n6 : (0 : Rat) ≤ 6 / 7 := by decide +kernel
  exact ⟨⟨(zv.add2 h7).mono (by decide), by grind⟩, (zv.mul2 h6).mono (by decide), Rat.mul_nonneg v0 n6⟩
def spAnyDraw (K : PySem.W.Frag) : Sp := fun vs H Q _ => ∃ (p d : Addr) (n : Int) (F : Addr → Prop) (L : Lore), vs = [.ref p, .ref d] ∧ Pot H p n ∧ n < 600000 ∧ LoreAt K F H d L ∧ ¬ F p ∧ LoreOk L ∧ (rawSettings L).length ≤ 16 ∧ ∀ t H' v r, But p H H' → Pot H' p (n + 40) → OneAt K H' t v r → Q (.ref t) H'
/-! ### what a setting tells, written out -/
def seenD (L : Lore) (s : Sett) (v r : Rat) : PyData := .tuple [ratD (drawQ L s), ratD (readQ v r (drawQ L s)), .tuple ((shownQ L s (readQ v r (drawQ L s))).map .int)]
theorem dpAll_ints {K : PySem.W.Frag} {H : Hp} : ∀ is : List Int, DpAll K H (is.map V.int) (is.map .int)
  | [] => .nil
  | i :: is => .cons (.int i) (dpAll_ints is)
theorem dp_seen {K : PySem.W.Frag} {H : Hp} {L : Lore} {s : Sett} {v r : Rat} {p a b c : Addr} (h : SqT K H p [.ref a, .ref b, .ref c]) (ha : SqT K H a (rat (drawQ L s))) (hb : SqT K H b (rat (readQ v r (drawQ L s)))) (hc : SqT K H c ((shownQ L s (readQ v r (drawQ L s))).map V.int)) : Dp K H (.ref p) (seenD L s v r) :=
  .tup h (.cons (dp_rat ha) (.cons (dp_rat hb) (.cons (.tup hc (dpAll_ints _)) .nil)))
theorem sho_seen {L : Lore} (ok : LoreOk L) {s : Sett} {v r : Rat} (zv : Sz 120 v) (zr : Sz 14 r) (v0 : 0 ≤ v) (r0 : 0 ≤ r) : Sho 2 100 (seenD L s v r) := by
  obtain ⟨zd, d0⟩ := drawQ_sz ok s
  have zq := readQ_sz zv zr zd r0 d0 (by decide)
  have hl := rowsAt_len ok s
  have := sho_tup (k := 1) (b := 3) (ds := [ratD (drawQ L s), ratD (readQ v r (drawQ L s)), .tuple ((shownQ L s (readQ v r (drawQ L s))).map .int)]) fun d hd => by
    simp only [List.mem_cons, List.not_mem_nil, or_false] at hd
    rcases hd with rfl | rfl | rfl
    · exact (sho_ratW zd (by decide)).mono (by decide) (by decide)
    · exact (sho_ratW zq (by decide)).mono (by decide) (by decide)
    · refine (sho_tup (k := 0) (b := 0) fun d hd => ?_).mono (by decide) (by rw [List.length_map]; unfold shownQ; rw [List.length_map]; omega)
      obtain ⟨i, hi, rfl⟩ := List.mem_map.mp hd
      obtain ⟨x, hx, rfl⟩ := List.mem_map.mp hi
      obtain ⟨ah, rok⟩ := rowsAt_ok ok hx
      exact sho_intW (Nat.lt_of_lt_of_le (figQ_sz zq rok.s.sz14) (Nat.pow_le_pow_right (by decide) (by decide)))
  exact this.mono (by decide) (by simp only [List.length_cons, List.length_nil]; omega)
end My

/-! own layer: dicts whose keys are tuples of names -/
namespace My
open PySem PySem.Spec PyProof.Rows L2 TL
open PySem.Sem (wp)
section
variable {prog : Program} {w : World} {A : Around} {E : Value → Shared → Prop} {s : Shared} {T : String} {r d : Addr} {n : Nat} {P : Nat → Value → Prop} {OK : Heap → Prop}
theorem code_tuple_dict {Q₁ : Value → Shared → Prop} (K : PySem.W.KdlSrc prog w "dict" r d n P OK) (hh : A.handled = none) (hok : OK s.heap) (hn : n ≤ sizeLine)
    (h : ∀ (h' : Heap) (tk : Nat) (acc : Array Value), (∀ b o, s.heap.get? b = some o → h'.get? b = some o) → ItemsOf P acc n → Q₁ (.ref h'.objs.size) { s with heap := h'.push { cls := .type "tuple", data := .seq acc }, toks := tk }) :
    codeAny (model prog w) A (.call (.builtin "tuple.__new__") ⟨[.type "tuple", .ref r], []⟩) (wants Q₁ E) s := by
  refine codeAny_of_tree ?_
  show wpAny _ A.in1 (do checkBuiltinCall "tuple.__new__" ⟨[.type "tuple", .ref r], []⟩; again (.builtin "tuple.__new__" ⟨[.type "tuple", .ref r], []⟩)) _ _ s
  refine wpAny_bind (wpAny_of_eq (F.newCall_tuple_1 _) (wpAny_pure ⟨plainId_quiet F.plain_tuple_new _, codeAny_builtin F.entry_tuple_new ?_⟩))
  rw [Around.under_plainId F.plain_tuple_new _]
  have hsub := sub_tuple_self
  have hinit := init_tuple_lookup
  have hmh := madeHere_tuple
  have hTI : s.TypeIs (.ref r) "dict" := K.type _ hok
  have hh1 : A.in1.handled = none := hh
  wp_walk using wpAny_typeOf hTI, PySem.W.kdu_collect (A := A.in1) K hh1 hok hn
  intro h' tk acc hk hacc
  show wpAny _ _ (Builtin.Tuple.tupleExact acc.toList.toArray >>= fun v => ret v) _ _ _
  unfold Builtin.Tuple.tupleExact
  refine wpAny_bind (wpAny_newObj_type ?_ (by show acc.toList.toArray.size ≤ sizeLine; simp only [Array.toArray_toList]; rw [hacc.1]; exact hn))
  refine wpAny_pure ?_
  have e : acc.toList.toArray = acc := by simp
  rw [e]
  exact h h' tk acc hk hacc
theorem call_tuple_dict {Q : Value → Shared → Prop} (K : PySem.W.KdlSrc prog w "dict" r d n P OK) (hh : A.handled = none) (hok : OK s.heap) (hn : n ≤ sizeLine)
    (hQ : ∀ (h' : Heap) (tk : Nat) (acc : Array Value), (∀ b o, s.heap.get? b = some o → h'.get? b = some o) → ItemsOf P acc n → Q (.ref h'.objs.size) { s with heap := h'.push { cls := .type "tuple", data := .seq acc }, toks := tk }) :
    wpAny (model prog w) A (call (.type "tuple") [.ref r]) Q E s := by
  refine callType_codes (Q₁ := fun obj s₁ => s₁.TypeIs obj "tuple" ∧ Q obj s₁) F.called_tuple (F.typeCall_tuple_1 _) F.entry_object_init
    (code_tuple_dict (A := A.in1) K hh hok hn fun h' tk acc hk hacc => ⟨⟨_, Heap.get?_push_size _ rfl, rfl⟩, hQ h' tk acc hk hacc⟩) fun obj s₁ h₁ => ?_
  exact ⟨h₁.1, F.args_object_init_2 obj _, object_init_meets F.called_tuple.init.lookup F.called_tuple.made (by decide) prog w A.in1 _ s₁ ⟨h₁.1, rfl, h₁.2⟩⟩
end
/-! ### tuple(d), d a dict whose keys are tuples -/
def rTupDT : List V → Hp → VK → Prop := fun xs H Q => ∃ d kvs, xs = [V.ref d] ∧ Rd H d (.dT kvs) ∧ ∀ p bs, H p = none → IsKeys H kvs bs → Q (.ref p) (upd H p (.tup (bs.map V.ref)))
theorem cr_tupDT {X : Cx} (hc : X.calm = true) : CallR X (.type "tuple") rTupDT := by
  intro pins s σ H xs us Q I r h
  obtain ⟨d, kvs, rfl, hd, q⟩ := h
  obtain ⟨u, rfl, rx⟩ := r.one
  cases rx
  obtain ⟨z, hs, ks, pr, o, es, ep, ho, hx, hdt, he, hn⟩ := (show ObjOk X.prog X.w H s.heap d (.dT kvs) from hd.ok I.hok)
  have l1 : es.size = ks.length := size_of_entries he
  have l2 : kvs.length = ks.length := Paired.length pr
  refine call_tuple_dict (kdl_raw hs hx hdt) (I.ok.hd hc) ho (by omega) fun h' tk acc' kp it => ?_
  have ea : acc'.toList = (ks.map fun x => x.2.1).map Value.ref := by
    apply List.ext_getElem?
    intro j
    rw [List.getElem?_map, List.getElem?_map]
    by_cases hj : j < ks.length
    · have hja : j < acc'.size := by rw [it.1, l1]; exact hj
      obtain ⟨en, hen, hv⟩ := it.2 j acc'[j] (Array.getElem?_eq_getElem hja)
      have qe := entry_at he j
      rw [hen, List.getElem?_eq_getElem hj] at qe
      have e2 : en = entryOfKey (tupleKind (mixKind X.prog X.w)) ks[j] := Option.some.inj qe
      rw [Array.getElem?_toList, Array.getElem?_eq_getElem hja, List.getElem?_eq_getElem hj, hv, e2]
      rfl
    · rw [List.getElem?_eq_none (by rw [Array.length_toList, it.1, l1]; omega), List.getElem?_eq_none (by omega)]
      rfl
  have rv : Vals ((ks.map fun x => x.2.1).map V.ref) acc'.toList := by rw [ea]; exact vals_refs _
  have hz : ((ks.map fun x => x.2.1).map V.ref).length ≤ sizeLine := by rw [List.length_map, List.length_map]; omega
  have I1 : Inv X pins σ H { s with heap := h', toks := tk } := I.kept (t' := tk) kp
  have I2 : Inv X pins σ (upd H h'.objs.size (.tup ((ks.map fun x => x.2.1).map V.ref))) { s with heap := h'.push { cls := .type "tuple", data := .seq acc' }, toks := tk } :=
    I1.laid (t' := tk) (fun b o e => Heap.get?_push_of_some _ e) (Nat.le_refl _) (show ObjOk X.prog X.w _ _ _ (.tup _) from ⟨hz, acc'.toList, rv, by rw [Array.toArray_toList]; exact IsTup.new _ _⟩)
  exact ⟨.ref h'.objs.size, upd H h'.objs.size (.tup ((ks.map fun x => x.2.1).map V.ref)), I2, rfl, q _ _ (I1.hok.fresh (Nat.le_refl _)) (isKeys_of pr)⟩
end My

/-! own layer: steps that are possible, by own numbers -/
namespace My
open PySem PySem.Spec PyProof.Rows L2 TL
theorem i_neDQ {K : PySem.W.Frag} {H : Hp} {Q : VK} {a b : Addr} {p q : Rat} (ha : SqT K H a (rat p)) (hb : SqT K H b (rat q)) (h : Q (.bl (!decide (p = q))) H) : rNeD K (.ref a) (.ref b) H Q := by
  refine ⟨.tuple [.int p.num, .int p.den], .tuple [.int q.num, .int q.den], .tup ha (.cons (.int _) (.cons (.int _) .nil)), .tup hb (.cons (.int _) (.cons (.int _) .nil)), rfl, rfl, ?_⟩
  have e : PyData.eqv (.tuple [.int p.num, .int p.den]) (.tuple [.int q.num, .int q.den]) = decide (p = q) := by
    rw [← rat_inj]
    simp [PyData.eqv, PyData.eqvAll]
    rfl
  rw [e]
  exact h
/-! ### one range for each meter -/
theorem filter_sole {rows : List Row} (hd : (rows.map (·.n)).Nodup) {j : Nat} {r : Row} (h : rows[j]? = some r) : (rows.filter fun x => decide (x.n = r.n)) = [r] := by
  have hl := filter_one hd r.n
  have hm : r ∈ rows.filter fun x => decide (x.n = r.n) := List.mem_filter.mpr ⟨List.mem_of_getElem? h, by simp⟩
  generalize (rows.filter fun x => decide (x.n = r.n)) = l at *
  match l, hl, hm with
  | [x], _, hm => rw [List.mem_singleton.mp hm]
theorem rowsTo_len {L : Lore} (ok : LoreOk L) {s : Sett} (h : InB L s) : ∀ i, i ≤ L.meters.length → (rowsTo L s i).length = i := by
  intro i
  induction i with
  | zero => intro _; rfl
  | succ i ih =>
    intro hi
    have hm : L.meters[i]? = some L.meters[i] := List.getElem?_eq_getElem hi
    obtain ⟨r, hr, hn⟩ := h.at_ i _ hm
    obtain ⟨j, hj⟩ := List.mem_iff_getElem?.mp hr
    rw [rowsTo_succ hm hn, List.length_append, ih (by omega), filter_sole (RowsOk.nd (ok.rows _ (List.mem_of_getElem? hm)).2.2).1 hj]
    rfl
theorem rowsAt_len' {L : Lore} (ok : LoreOk L) {s : Sett} (h : InB L s) : (rowsAt L s).length = L.meters.length := by
  rw [← rowsTo_all h.len]
  exact rowsTo_len ok h _ (Nat.le_refl _)
/-- the range of the i-th meter -/
theorem rowsAt_get {L : Lore} (ok : LoreOk L) {s : Sett} (h : InB L s) {i : Nat} {m : Str × List Row} (hm : L.meters[i]? = some m) : ∃ (j : Nat) (r : Row), m.2[j]? = some r ∧ s.1[i]? = some r.n ∧ (rowsAt L s)[i]? = some r := by
  have hi := (List.getElem?_eq_some_iff.mp hm).1
  obtain ⟨r, hr, hn⟩ := h.at_ i _ hm
  obtain ⟨j, hj⟩ := List.mem_iff_getElem?.mp hr
  refine ⟨j, r, hj, hn, ?_⟩
  have key : (rowsTo L s (i + 1))[i]? = some r := by
    rw [rowsTo_succ hm hn, filter_sole (RowsOk.nd (ok.rows _ (List.mem_of_getElem? hm)).2.2).1 hj, List.getElem?_append_right (by rw [rowsTo_len ok h i (by omega)]; exact Nat.le_refl _), rowsTo_len ok h i (by omega), Nat.sub_self]
    rfl
  have pre : ∃ t, rowsAt L s = rowsTo L s (i + 1) ++ t := by
    refine ⟨((L.meters.zip s.1).drop (i + 1)).flatMap fun mn => mn.1.2.filter fun r => decide (r.n = mn.2), ?_⟩
    unfold rowsAt rowsTo
    rw [← List.flatMap_append, List.take_append_drop]
  obtain ⟨t, ht⟩ := pre
  rw [ht, List.getElem?_append_left (by rw [rowsTo_len ok h _ (by omega)]; omega)]
  exact key
/-! ### what stands behind a step -/
def behS (L : Lore) (s : Sett) (st : Str × Bool) : Sett :=
  let i := (L.meters.map (·.1)).findIdx fun x => decide (x = st.1)
  match L.meters[i]?, s.1[i]? with
  | some m, some n =>
    match goes m.2.length ((m.2.map (·.n)).findIdx fun x => decide (x = n)) st.2 with
    | some k => match m.2[k]? with
      | some r => (s.1.set i r.n, s.2)
      | none => s
    | none => s
  | _, _ => s
theorem find_sole {ns : List Str} (hd : ns.Nodup) {i : Nat} {n : Str} (h : ns[i]? = some n) : (ns.findIdx fun x => decide (x = n)) = i := by
  obtain ⟨hi, e⟩ := List.getElem?_eq_some_iff.mp h
  refine (List.findIdx_eq (by exact hi)).mpr ⟨by simp [e], fun j hj => ?_⟩
  have hne : ns[j] ≠ n := fun z => by
    have := (List.getElem_inj (h₀ := by omega) (h₁ := hi) hd (i := j) (j := i)).mp (by rw [z, e])
    omega
  simp [hne]
theorem behS_eq {L : Lore} (ok : LoreOk L) {s : Sett} {i j k : Nat} {m : Str × List Row} {r r' : Row} {up : Bool} (hm : L.meters[i]? = some m) (hr : m.2[j]? = some r) (hn : s.1[i]? = some r.n) (hg : goes m.2.length j up = some k) (hr' : m.2[k]? = some r') : behS L s (m.1, up) = (s.1.set i r'.n, s.2) := by
  have e1 : ((L.meters.map (·.1)).findIdx fun x => decide (x = m.1)) = i := find_sole ok.md (by rw [List.getElem?_map, hm]; rfl)
  have e2 : ((m.2.map (·.n)).findIdx fun x => decide (x = r.n)) = j := find_sole (RowsOk.nd (ok.rows _ (List.mem_of_getElem? hm)).2.2).1 (by rw [List.getElem?_map, hr]; rfl)
  unfold behS
  simp only [e1, hm, hn, e2, hg, hr']
theorem RowsOk.at {ah rows : List Row} (h : RowsOk ah rows) {j : Nat} {r : Row} (hr : rows[j]? = some r) : RowOk r (ah ++ rows.take j) ∧ (j + 1 < rows.length → r.U ≠ none) ∧ (j + 1 = rows.length → r.U = none) := by
  induction rows generalizing ah j with
  | nil => simp at hr
  | cons x rs ih =>
    obtain ⟨h1, h2, h3, h4⟩ := h
    cases j with
    | zero =>
      simp only [List.getElem?_cons_zero, Option.some.injEq] at hr
      subst hr
      refine ⟨by rw [List.take_zero, List.append_nil]; exact h1, fun l => h2 ?_, fun l => h3 ?_⟩
      · intro z; rw [z] at l; simp at l
      · cases rs with
        | nil => rfl
        | cons y ys => simp at l
    | succ j =>
      simp only [List.getElem?_cons_succ] at hr
      obtain ⟨a, b, c⟩ := ih h4 hr
      refine ⟨by rw [List.take_succ_cons]; simpa using a, fun l => b (by simp at l; omega), fun l => c (by simp at l; omega)⟩
/-- a threshold leads on -/
theorem goes_down {rows : List Row} (h : RowsOk [] rows) {j : Nat} {r : Row} (hr : rows[j]? = some r) {q : Rat} (hq : r.D = some q) : ∃ (k : Nat) (r' : Row), goes rows.length j false = some k ∧ rows[k]? = some r' := by
  obtain ⟨a, _, _⟩ := h.at hr
  have hj := (List.getElem?_eq_some_iff.mp hr).1
  have h0 : 0 < j := by
    cases j with
    | zero => rw [(a.d.1 rfl)] at hq; cases hq
    | succ j => omega
  exact ⟨j - 1, rows[j - 1], by unfold goes; simp [h0], List.getElem?_eq_getElem (by omega)⟩
theorem goes_up {rows : List Row} (h : RowsOk [] rows) {j : Nat} {r : Row} (hr : rows[j]? = some r) {q : Rat} (hq : r.U = some q) : ∃ (k : Nat) (r' : Row), goes rows.length j true = some k ∧ rows[k]? = some r' := by
  obtain ⟨_, _, c⟩ := h.at hr
  have hj := (List.getElem?_eq_some_iff.mp hr).1
  have h0 : j + 1 < rows.length := by
    rcases Nat.lt_or_ge (j + 1) rows.length with l | l
    · exact l
    · rw [c (by omega)] at hq; cases hq
  exact ⟨j + 1, rows[j + 1], by unfold goes; simp [h0], List.getElem?_eq_getElem h0⟩
/-! ### moves -/
abbrev Mv : Type := Str × Bool × Rat
def mvO (m : Str) (up : Bool) (o : Option Rat) : List Mv := match o with
  | some q => if q = 0 then [] else [(m, up, q)]
  | none => []
def movesR (sp : Nat) (m : Str) (r : Row) : List Mv := mvO m false (lowR sp r).D ++ mvO m true r.U
def movesOf (L : Lore) (s : Sett) : List Mv := (L.meters.zip (rowsAt L s)).flatMap fun mr => movesR L.spread mr.1.1 mr.2
def stepsR (sp : Nat) (q : Rat) (m : Str) (r : Row) : List (Str × Bool) := (match (lowR sp r).D with | some d => if q < d then [(m, false)] else [] | none => []) ++ (match r.U with | some u => if u ≤ q then [(m, true)] else [] | none => [])
def stepsQ (L : Lore) (s : Sett) (q : Rat) : List (Str × Bool) := (L.meters.zip (rowsAt L s)).flatMap fun mr => stepsR L.spread q mr.1.1 mr.2
def stepsOf (L : Lore) (s : Sett) (v r : Rat) : List (Str × Bool) := stepsQ L s (readQ v r (drawQ L s))
def hits (q : Rat) (x : Mv) : Bool := decide (x.2.2 ≤ q) == x.2.1
theorem moves_steps {sp : Nat} {m : Str} {r : Row} {q : Rat} (q0 : 0 ≤ q) (hU : ∀ u, r.U = some u → 0 < u) : ((movesR sp m r).filter (hits q)).map (fun x => (x.1, x.2.1)) = stepsR sp q m r := by
  unfold movesR stepsR
  rw [List.filter_append, List.map_append]
  congr 1
  · cases (lowR sp r).D with
    | none => rfl
    | some d =>
      show ((if d = 0 then [] else [(m, false, d)] : List Mv).filter (hits q)).map _ = if q < d then [(m, false)] else []
      by_cases e : d = 0
      · subst e
        rw [if_pos rfl, if_neg (by grind)]
        rfl
      · rw [if_neg e]
        by_cases l : q < d
        · rw [if_pos l, List.filter_cons_of_pos (by unfold hits; simp; grind)]
          rfl
        · rw [if_neg l, List.filter_cons_of_neg (by unfold hits; simp; grind)]
          rfl
  · cases hu : r.U with
    | none => rfl
    | some u =>
      have := hU u hu
      show ((if u = 0 then [] else [(m, true, u)] : List Mv).filter (hits q)).map _ = if u ≤ q then [(m, true)] else []
      rw [if_neg (by grind)]
      by_cases l : u ≤ q
      · rw [if_pos l, List.filter_cons_of_pos (by unfold hits; simp; exact l)]
        rfl
      · rw [if_neg l, List.filter_cons_of_neg (by unfold hits; simp; grind)]
        rfl
theorem moves_hit {L : Lore} (ok : LoreOk L) {s : Sett} {q : Rat} (q0 : 0 ≤ q) : ((movesOf L s).filter (hits q)).map (fun x => (x.1, x.2.1)) = stepsQ L s q := by
  unfold movesOf stepsQ
  have key : ∀ l : List ((Str × List Row) × Row), (∀ x ∈ l, x.2 ∈ rowsAt L s) → ((l.flatMap fun mr => movesR L.spread mr.1.1 mr.2).filter (hits q)).map (fun x => (x.1, x.2.1)) = l.flatMap fun mr => stepsR L.spread q mr.1.1 mr.2 := by
    intro l
    induction l with
    | nil => intro _; rfl
    | cons x l ih =>
      intro h
      obtain ⟨ah, rok⟩ := rowsAt_ok ok (h x List.mem_cons_self)
      rw [List.flatMap_cons, List.flatMap_cons, List.filter_append, List.map_append, ih fun y hy => h y (List.mem_cons_of_mem _ hy), moves_steps q0 fun u hu => (rok.u u hu).2]
  exact key _ fun x hx => (List.of_mem_zip hx).2
/-- a threshold is reached: volts, ohms, the draw -/
theorem reach_iff {v r u g : Rat} (r0 : 0 ≤ r) (g0 : 0 ≤ g) : (u + u * g * r ≤ v) ↔ u ≤ readQ v r g := by
  have h := one_pos r0 g0
  unfold readQ
  have e : u * (1 + r * g) = u + u * g * r := by grind
  have e2 : v / (1 + r * g) * (1 + r * g) = v := Rat.div_mul_cancel (by grind)
  rw [← e]
  refine ⟨fun l => ?_, fun l => ?_⟩
  · rcases (Rat.le_total : u ≤ v / (1 + r * g) ∨ v / (1 + r * g) ≤ u) with c | c
    · exact c
    · have := Rat.mul_le_mul_of_nonneg_right c (Rat.le_of_lt h)
      have e3 : u * (1 + r * g) = v / (1 + r * g) * (1 + r * g) := by grind
      have : u = v / (1 + r * g) := by
        have h' : (1 + r * g) ≠ 0 := by grind
        have := congrArg (· / (1 + r * g)) e3
        simp only [Rat.mul_div_cancel h'] at this
        exact this
      rw [this]
      exact Rat.le_refl
  · have := Rat.mul_le_mul_of_nonneg_right l (Rat.le_of_lt h)
    rwa [e2] at this
/-! ### no step twice -/
theorem mvO_key {m : Str} {up : Bool} {o : Option Rat} {x : Mv} (h : x ∈ mvO m up o) : x.1 = m ∧ x.2.1 = up := by
  cases o with
  | none => cases h
  | some q =>
    unfold mvO at h
    by_cases e : q = 0
    · simp [e] at h
    · simp only [e, if_false, List.mem_singleton] at h
      rw [h]
      exact ⟨rfl, rfl⟩
theorem mvO_nd {m : Str} {up : Bool} {o : Option Rat} : (mvO m up o).length ≤ 1 := by
  cases o with
  | none => exact Nat.zero_le _
  | some q =>
    unfold mvO
    by_cases e : q = 0
    · simp [e]
    · simp [e]
theorem nd_one {α : Type} {l : List α} (h : l.length ≤ 1) : l.Nodup := by
  match l, h with
  | [], _ => exact List.nodup_nil
  | [x], _ => exact List.nodup_cons.mpr ⟨List.not_mem_nil, List.nodup_nil⟩
theorem zip_fst_sub {α β : Type} : ∀ (l : List α) (m : List β), List.Sublist ((l.zip m).map Prod.fst) l
  | [], _ => by rw [List.zip_nil_left]; exact List.Sublist.refl _
  | a :: l, [] => by rw [List.zip_nil_right]; exact List.nil_sublist _
  | a :: l, b :: m => by rw [List.zip_cons_cons, List.map_cons]; exact List.Sublist.cons_cons _ (zip_fst_sub l m)
theorem moves_nd {L : Lore} (ok : LoreOk L) (s : Sett) : ((movesOf L s).map fun x => (x.1, x.2.1)).Nodup := by
  unfold movesOf
  have key : ∀ l : List ((Str × List Row) × Row), (l.map (·.1.1)).Nodup → ((l.flatMap fun mr => movesR L.spread mr.1.1 mr.2).map fun x => (x.1, x.2.1)).Nodup := by
    intro l
    induction l with
    | nil => intro _; exact List.nodup_nil
    | cons a l ih =>
      intro h
      rw [List.map_cons, List.nodup_cons] at h
      rw [List.flatMap_cons, List.map_append, List.nodup_append]
      refine ⟨?_, ih h.2, ?_⟩
      · unfold movesR
        rw [List.map_append, List.nodup_append]
        refine ⟨nd_one (by rw [List.length_map]; exact mvO_nd), nd_one (by rw [List.length_map]; exact mvO_nd), ?_⟩
        intro x hx y hy e
        obtain ⟨x', hx', rfl⟩ := List.mem_map.mp hx
        obtain ⟨y', hy', rfl⟩ := List.mem_map.mp hy
        have h1 := (mvO_key hx').2
        have h2 := (mvO_key hy').2
        simp only [Prod.mk.injEq] at e
        rw [h1, h2] at e
        cases e.2
      · intro x hx y hy e
        obtain ⟨x', hx', rfl⟩ := List.mem_map.mp hx
        obtain ⟨y', hy', rfl⟩ := List.mem_map.mp hy
        obtain ⟨b, hb, hy2⟩ := List.mem_flatMap.mp hy'
        have h1 : x'.1 = a.1.1 := by
          rcases List.mem_append.mp hx' with z | z
          · exact (mvO_key z).1
          · exact (mvO_key z).1
        have h2 : y'.1 = b.1.1 := by
          rcases List.mem_append.mp hy2 with z | z
          · exact (mvO_key z).1
          · exact (mvO_key z).1
        simp only [Prod.mk.injEq] at e
        exact h.1 (List.mem_map.mpr ⟨b, hb, by rw [← h2, ← e.1, h1]⟩)
  refine key _ ?_
  have e : (L.meters.zip (rowsAt L s)).map (fun x => x.1.1) = ((L.meters.zip (rowsAt L s)).map Prod.fst).map (·.1) := by rw [List.map_map]; rfl
  rw [e]
  exact (List.Sublist.map _ (zip_fst_sub _ _)).nodup ok.md
def stepK (x : Str × Bool) : List Key := [.inr x.1, .inr (wayS x.2)]
theorem wayS_inj {a b : Bool} (h : wayS a = wayS b) : a = b := by
  cases a <;> cases b <;> first | rfl | exact absurd h (by decide +kernel)
theorem stepK_inj {x y : Str × Bool} (h : stepK x = stepK y) : x = y := by
  unfold stepK at h
  simp only [List.cons.injEq, Sum.inr.injEq, and_true] at h
  exact Prod.ext h.1 (wayS_inj h.2)
/-! ### promises -/
section
variable {K : PySem.W.Frag} {H H' : Hp} {L : Lore} {s : Sett}
/-- a move as it stands in a list: the step, what stands behind it, its line, whether it leads up -/
def MoveAt (K : PySem.W.Frag) (H : Hp) (L : Lore) (s : Sett) (v : V) (x : Mv) : Prop := ∃ (t st : Addr) (vb : V) (ln a b : Addr), v = .ref t ∧ SqT K H t [.ref st, vb, .ref ln, .bl x.2.1] ∧ H st = some (.tup [.str x.1, .str (wayS x.2.1)]) ∧ Dp K H vb (settingD (behS L s (x.1, x.2.1))) ∧ SqT K H ln [.ref a, .ref b] ∧ SqT K H a (rat x.2.2) ∧ SqT K H b (rat (x.2.2 * drawQ L s))
theorem MoveAt.same {v : V} {x : Mv} (h : MoveAt K H L s v x) (S : Same H H') : MoveAt K H' L s v x := by
  obtain ⟨t, st, vb, ln, a, b, rfl, h1, h2, h3, h4, h5, h6⟩ := h
  exact ⟨t, st, vb, ln, a, b, rfl, S.seqT h1, S _ _ h2, h3.same S, S.seqT h4, S.seqT h5, S.seqT h6⟩
theorem MoveAt.but {v : V} {x : Mv} {p : Addr} {o : HO} (h : MoveAt K H L s v x) (hp : H p = some o) (B : But p H H') (pl : Plain o := by exact trivial) : MoveAt K H' L s v x := by
  obtain ⟨t, st, vb, ln, a, b, rfl, h1, h2, h3, h4, h5, h6⟩ := h
  have ne : st ≠ p := fun z => by rw [z, hp, Option.some.injEq] at h2; subst h2; exact pl.elim
  exact ⟨t, st, vb, ln, a, b, rfl, seqT_butP hp pl B h1, B _ _ ne h2, dp_butN hp pl B (noL_setting _) h3, seqT_butP hp pl B h4, seqT_butP hp pl B h5, seqT_butP hp pl B h6⟩
def MovesAt (K : PySem.W.Frag) (H : Hp) (L : Lore) (s : Sett) : List V → List Mv → Prop := Paired (MoveAt K H L s)
theorem MovesAt.same {xs : List V} {ms : List Mv} (h : MovesAt K H L s xs ms) (S : Same H H') : MovesAt K H' L s xs ms := Paired.mapP h fun _ _ q => q.same S
theorem MovesAt.but {xs : List V} {ms : List Mv} {p : Addr} {o : HO} (h : MovesAt K H L s xs ms) (hp : H p = some o) (B : But p H H') (pl : Plain o := by exact trivial) : MovesAt K H' L s xs ms := Paired.mapP h fun _ _ q => q.but hp B pl
theorem movesAt_snoc {xs : List V} {ms : List Mv} {v : V} {x : Mv} (h : MovesAt K H L s xs ms) (h' : MoveAt K H L s v x) : MovesAt K H L s (xs ++ [v]) (ms ++ [x]) := by
  induction h with
  | nil => exact .cons h' .nil
  | cons a _ ih => exact .cons a ih
end
def stepD (x : Str × Bool) : PyData := .tuple [.str x.1, .str (wayS x.2)]
def stepsD (xs : List (Str × Bool)) : PyData := .tuple (xs.map stepD)
def spMovesAt (K : PySem.W.Frag) (C : Addr) : Sp := fun vs H Q _ => ∃ (b : Addr) (L : Lore) (x : V) (s : Sett), vs = [.ref b, x] ∧ BenAt K C H b L ∧ LoreOk L ∧ Dp K H x (settingD s) ∧ InB L s ∧
  ∀ (r : Addr) (H' : Hp) (xs : List V), Same H H' → H r = none → H' r = some (.lst xs) → MovesAt K H' L s xs (movesOf L s) → Q (.ref r) H'
/-- whether volts and ohms reach a line -/
def spReaches (K : PySem.W.Frag) (S : Addr) : Sp := fun vs H Q _ => ∃ (so ln a b : Addr) (v r q m : Rat), vs = [.ref so, .ref ln] ∧ SrcAt K S H so v r ∧ SqT K H ln [.ref a, .ref b] ∧ SqT K H a (rat q) ∧ SqT K H b (rat m) ∧ Sz 120 v ∧ Sz 14 r ∧ Sz 20 q ∧ Sz 96 m ∧
  ∀ H', Same H H' → Q (.bl (decide (q + m * r ≤ v))) H'
/-- a comparison with a ratio that is not in least terms -/
def spAtLeastRaw (K : PySem.W.Frag) : Sp := fun vs H Q _ => ∃ (a b : Addr) (p : Rat) (n d : Int), vs = [.ref a, .ref b] ∧ SqT K H a (rat p) ∧ SqT K H b [.int n, .int d] ∧ 0 < d ∧ Sz 300 p ∧ n.natAbs < 2 ^ 300 ∧ d.natAbs < 2 ^ 300 ∧ Q (.bl (decide ((n : Rat) / (d : Rat) ≤ p))) H
def StepV (K : PySem.W.Frag) (H : Hp) (L : Lore) (s : Sett) (kv : List Key × V) (x : Str × Bool) : Prop := kv.1 = stepK x ∧ Dp K H kv.2 (settingD (behS L s x))
def spPossible (K : PySem.W.Frag) (C S : Addr) : Sp := fun vs H Q _ => ∃ (b so : Addr) (L : Lore) (x : V) (s : Sett) (v r : Rat), vs = [.ref b, x, .ref so] ∧ BenAt K C H b L ∧ LoreOk L ∧ Dp K H x (settingD s) ∧ InB L s ∧ SrcAt K S H so v r ∧ Sz 120 v ∧ Sz 14 r ∧
  ∀ (d : Addr) (H' : Hp) (kvs : List (List Key × V)), Same H H' → H d = none → H' d = some (.dT kvs) → Paired (StepV K H' L s) kvs (stepsOf L s v r) → Q (.ref d) H'
def spSteps (K : PySem.W.Frag) (C S : Addr) : Sp := fun vs H Q _ => ∃ (b so : Addr) (L : Lore) (x : V) (s : Sett) (v r : Rat), vs = [.ref b, x, .ref so] ∧ BenAt K C H b L ∧ LoreOk L ∧ Dp K H x (settingD s) ∧ InB L s ∧ SrcAt K S H so v r ∧ Sz 120 v ∧ Sz 14 r ∧
  ∀ (p : Addr) (H' : Hp), Same H H' → H p = none → Dp K H' (.ref p) (stepsD (stepsOf L s v r)) → Q (.ref p) H'
/-- the law's own steps: pairs of the step and what stands behind it -/
def StepL (K : PySem.W.Frag) (H : Hp) (L : Lore) (s : Sett) (v : V) (x : Str × Bool) : Prop := ∃ (t : Addr) (st vb : V), v = .ref t ∧ SqT K H t [st, vb] ∧ Dp K H st (stepD x) ∧ Dp K H vb (settingD (behS L s x))
def spStepsL (K : PySem.W.Frag) : Sp := fun vs H Q _ => ∃ (d t : Addr) (F : Addr → Prop) (L : Lore) (x : V) (s : Sett) (v r : Rat), vs = [.ref d, x, .ref t] ∧ LoreAt K F H d L ∧ LoreOk L ∧ Dp K H x (settingD s) ∧ InB L s ∧ OneAt K H t v r ∧
  ∀ (p : Addr) (H' : Hp) (xs : List V), Same H H' → H p = none → H' p = some (.lst xs) → Paired (StepL K H' L s) xs (stepsOf L s v r) → Q (.ref p) H'
theorem paired_at {α β : Type} {G : α → β → Prop} {l1 : List α} {l2 : List β} (h : Paired G l1 l2) : ∀ {i : Nat} {b : β}, l2[i]? = some b → ∃ a, l1[i]? = some a ∧ G a b := by
  induction h with
  | nil => intro i b e; simp at e
  | @cons a b l1 l2 r t ih =>
    intro i b' e
    cases i with
    | zero => simp only [List.getElem?_cons_zero, Option.some.injEq] at e; subst e; exact ⟨a, rfl, r⟩
    | succ j => simp only [List.getElem?_cons_succ] at e ⊢; exact ih e
/-- the law's own step, by the place of the meter -/
def spMovedS (K : PySem.W.Frag) : Sp := fun vs H Q _ => ∃ (d : Addr) (F : Addr → Prop) (L : Lore) (x : V) (s : Sett) (i j : Nat) (m : Str × List Row) (r : Row) (up : Bool), vs = [.ref d, x, .int i, .int (if up = true then 1 else -1)] ∧ LoreAt K F H d L ∧ LoreOk L ∧ Dp K H x (settingD s) ∧ InB L s ∧
  L.meters[i]? = some m ∧ m.2[j]? = some r ∧ s.1[i]? = some r.n ∧
  (goes m.2.length j up = none → ∀ H', Same H H' → Q .non H') ∧ ∀ (k : Nat) (r' : Row), goes m.2.length j up = some k → m.2[k]? = some r' → ∀ v H', Same H H' → Dp K H' v (settingD (s.1.set i r'.n, s.2)) → Q v H'
theorem le_raw {n d : Int} {p : Rat} (hd : 0 < d) : ((n : Rat) / (d : Rat) ≤ p) ↔ n * (p.den : Int) ≤ p.num * d := by
  obtain ⟨e1, e2⟩ := rat_ndI n d hd
  rw [le_nd, e1, e2]
  have g0 : (0 : Int) < ((Nat.gcd n.natAbs d.natAbs : Nat) : Int) := by
    have := Nat.gcd_pos_of_pos_right n.natAbs (show 0 < d.natAbs by omega)
    omega
  have da : ((Nat.gcd n.natAbs d.natAbs : Nat) : Int) ∣ n := Int.ofNat_dvd_left.mpr (Nat.gcd_dvd_left _ _)
  have db : ((Nat.gcd n.natAbs d.natAbs : Nat) : Int) ∣ d := Int.ofNat_dvd_left.mpr (Nat.gcd_dvd_right _ _)
  generalize ((Nat.gcd n.natAbs d.natAbs : Nat) : Int) = g at *
  obtain ⟨x, rfl⟩ := da
  obtain ⟨y, rfl⟩ := db
  rw [Int.mul_ediv_cancel_left _ (by omega), Int.mul_ediv_cancel_left _ (by omega)]
  have a1 : g * x * (p.den : Int) = g * (x * (p.den : Int)) := Int.mul_assoc ..
  have a2 : p.num * (g * y) = g * (p.num * y) := by rw [← Int.mul_assoc, Int.mul_comm p.num g, Int.mul_assoc]
  rw [a1, a2]
  exact ⟨fun h => Int.mul_le_mul_of_nonneg_left h (by omega), fun h => Int.le_of_mul_le_mul_left h g0⟩
/-- the sum that is asked of a line, not in least terms -/
theorem line_raw {u m o : Rat} : (((u.num * (m.den : Int) * (o.den : Int) + m.num * o.num * (u.den : Int) : Int) : Rat) / ((((u.den : Int) * (m.den : Int) * (o.den : Int) : Int)) : Rat)) = u + m * o := by
  have h1 := num_den u
  have h2 := num_den m
  have h3 := num_den o
  have d1 := den_ne u
  have d2 := den_ne m
  have d3 := den_ne o
  have e3 : ((u.num * (m.den : Int) * (o.den : Int) + m.num * o.num * (u.den : Int) : Int) : Rat) = (u.num : Rat) * (m.den : Rat) * (o.den : Rat) + (m.num : Rat) * (o.num : Rat) * (u.den : Rat) := by push_cast; rfl
  have e4 : (((u.den : Int) * (m.den : Int) * (o.den : Int) : Int) : Rat) = (u.den : Rat) * (m.den : Rat) * (o.den : Rat) := by push_cast; rfl
  rw [e3, e4]
  have f1 : (u.num : Rat) = u * (u.den : Rat) := by grind
  have f2 : (m.num : Rat) = m * (m.den : Rat) := by grind
  have f3 : (o.num : Rat) = o * (o.den : Rat) := by grind
  rw [f1, f2, f3]
  have p1 : (0 : Rat) < (u.den : Rat) := by exact_mod_cast den_pos u
  have p2 : (0 : Rat) < (m.den : Rat) := by exact_mod_cast den_pos m
  have p3 : (0 : Rat) < (o.den : Rat) := by exact_mod_cast den_pos o
  have hne : (u.den : Rat) * (m.den : Rat) * (o.den : Rat) ≠ 0 := by
    have := Rat.mul_pos (Rat.mul_pos p1 p2) p3
    grind
  have e5 : u * (u.den : Rat) * (m.den : Rat) * (o.den : Rat) + m * (m.den : Rat) * (o * (o.den : Rat)) * (u.den : Rat) = (u + m * o) * ((u.den : Rat) * (m.den : Rat) * (o.den : Rat)) := by grind
  rw [e5]
  exact Rat.mul_div_cancel hne
/-! ### the dict of steps -/
def mvS (x : Mv) : Str × Bool := (x.1, x.2.1)
theorem moves_hit' {L : Lore} (ok : LoreOk L) {s : Sett} {q : Rat} (q0 : 0 ≤ q) : ((movesOf L s).filter (hits q)).map mvS = stepsQ L s q := moves_hit ok q0
theorem hit_succ {ms : List Mv} {q : Rat} {i : Nat} {x : Mv} (h : ms[i]? = some x) : ((ms.take (i + 1)).filter (hits q)).map mvS = ((ms.take i).filter (hits q)).map mvS ++ (if hits q x = true then [mvS x] else []) := by
  rw [List.take_add_one, h, List.filter_append, List.map_append, Option.toList_some]
  congr 1
  cases c : hits q x
  · rw [List.filter_cons_of_neg (by simp [c]), if_neg (by decide)]; rfl
  · rw [List.filter_cons_of_pos (by simp [c]), if_pos rfl]; rfl
theorem paired_mem {α β : Type} {G : α → β → Prop} {l1 : List α} {l2 : List β} (h : Paired G l1 l2) : ∀ a ∈ l1, ∃ b ∈ l2, G a b := by
  induction h with
  | nil => intro a ha; cases ha
  | cons r _ ih =>
    intro a ha
    rcases List.mem_cons.mp ha with rfl | ha
    · exact ⟨_, List.mem_cons_self, r⟩
    · obtain ⟨b, hb, g⟩ := ih a ha
      exact ⟨b, List.mem_cons_of_mem _ hb, g⟩
theorem fresh_key {K : PySem.W.Frag} {H : Hp} {L : Lore} {s : Sett} {kvs : List (List Key × V)} {ms : List Mv} {i : Nat} {x : Mv} {q : Rat} (hp : Paired (StepV K H L s) kvs (((ms.take i).filter (hits q)).map mvS)) (hnd : (ms.map mvS).Nodup) (hx : ms[i]? = some x) : valV kvs (stepK (mvS x)) = none := by
  have h := valV_any (stepK (mvS x)) kvs
  cases hv : valV kvs (stepK (mvS x)) with
  | none => rfl
  | some y =>
    rw [hv, Option.isSome_some, List.any_eq_true] at h
    obtain ⟨kv, hkv, e⟩ := h
    have e := of_decide_eq_true e
    obtain ⟨st, hst, g, _⟩ := paired_mem hp kv hkv
    rw [g] at e
    have e := stepK_inj e
    subst e
    obtain ⟨y', hy', ey⟩ := List.mem_map.mp hst
    have hy2 := (List.mem_filter.mp hy').1
    obtain ⟨j, hj⟩ := List.mem_iff_getElem?.mp hy2
    rw [List.getElem?_take] at hj
    by_cases hji : j < i
    · rw [if_pos hji] at hj
      have h1 := List.getElem?_eq_some_iff.mp hj
      have h2 := List.getElem?_eq_some_iff.mp hx
      have := (List.getElem_inj (h₀ := by rw [List.length_map]; exact h1.1) (h₁ := by rw [List.length_map]; exact h2.1) hnd (i := j) (j := i)).mp (by rw [List.getElem_map, List.getElem_map, h1.2, h2.2]; exact ey)
      omega
    · rw [if_neg hji] at hj
      cases hj
theorem stepV_but {K : PySem.W.Frag} {H H' : Hp} {L : Lore} {s : Sett} {kvs : List (List Key × V)} {xs : List (Str × Bool)} {p : Addr} {o : HO} (h : Paired (StepV K H L s) kvs xs) (hp : H p = some o) (B : But p H H') (pl : Plain o := by exact trivial) : Paired (StepV K H' L s) kvs xs :=
  Paired.mapP h fun _ _ q => ⟨q.1, dp_butN hp pl B (noL_setting _) q.2⟩
theorem stepV_same {K : PySem.W.Frag} {H H' : Hp} {L : Lore} {s : Sett} {kvs : List (List Key × V)} {xs : List (Str × Bool)} (h : Paired (StepV K H L s) kvs xs) (S : Same H H') : Paired (StepV K H' L s) kvs xs :=
  Paired.mapP h fun _ _ q => ⟨q.1, q.2.same S⟩
theorem moves_sz {L : Lore} (ok : LoreOk L) {s : Sett} {x : Mv} (h : x ∈ movesOf L s) : Sz 20 x.2.2 := by
  obtain ⟨mr, hmr, hx⟩ := List.mem_flatMap.mp h
  obtain ⟨ah, rok⟩ := rowsAt_ok ok (List.of_mem_zip hmr).2
  have one : ∀ {up : Bool} {o : Option Rat}, (∀ q, o = some q → Sz 20 q) → x ∈ mvO mr.1.1 up o → Sz 20 x.2.2 := by
    intro up o ho hx
    cases o with
    | none => cases hx
    | some q =>
      unfold mvO at hx
      by_cases e : q = 0
      · simp [e] at hx
      · simp only [e, if_false, List.mem_singleton] at hx
        rw [hx]
        exact ho q rfl
  rcases List.mem_append.mp hx with hx | hx
  · refine one (fun q hq => ?_) hx
    rw [show (lowR L.spread mr.2).D = mr.2.D.map (lowQ L.spread) from rfl] at hq
    obtain ⟨qD, hqD, rfl⟩ := Option.map_eq_some_iff.mp hq
    have hok : RatOk qD := by
      by_cases h : ah = []
      · rw [rok.d.1 h] at hqD; cases hqD
      · obtain ⟨q2, e2, o2⟩ := rok.d.2 h
        rw [hqD] at e2; cases e2; exact o2
    exact (hok.low ok.spread).1
  · exact one (fun q hq => (rok.u q hq).1.sz14.mono (by decide)) hx
theorem moves_len {L : Lore} (ok : LoreOk L) (s : Sett) : (movesOf L s).length ≤ 6 := by
  unfold movesOf
  have key : ∀ l : List ((Str × List Row) × Row), (l.flatMap fun mr => movesR L.spread mr.1.1 mr.2).length ≤ 2 * l.length := by
    intro l
    induction l with
    | nil => exact Nat.zero_le _
    | cons a l ih =>
      rw [List.flatMap_cons, List.length_append, List.length_cons]
      have : (movesR L.spread a.1.1 a.2).length ≤ 2 := by
        unfold movesR
        rw [List.length_append]
        have h1 := mvO_nd (m := a.1.1) (up := false) (o := (lowR L.spread a.2).D)
        have h2 := mvO_nd (m := a.1.1) (up := true) (o := a.2.U)
        omega
      omega
  have := key (L.meters.zip (rowsAt L s))
  rw [List.length_zip] at this
  have := ok.m3
  omega
section
variable {σ : L2.St} {H : Hp} {Q : VK}
theorem i_dnewT (h : ∀ d H1, Same H H1 → H d = none → H1 d = some (.dT []) → Q (.ref d) H1) : tDNewT σ H Q := fun p hp => h p _ (fun b u e => by rw [upd_ne (ne_of_none e hp)]; exact e) hp upd_same
end
/-- a source stays where a dict changes -/
theorem srcAt_butP {K : PySem.W.Frag} {C : Addr} {H H' : Hp} {s p : Addr} {v r : Rat} {kvs : List (List Key × V)} (h : SrcAt K C H s v r) (hp : H p = some (.dT kvs)) (B : But p H H') : SrcAt K C H' s v r := by
  obtain ⟨dx, a, b, h1, h2, h3, h4⟩ := h
  exact ⟨dx, a, b, B _ _ (fun e => by rw [e, hp] at h1; cases h1) h1, seqT_butP hp trivial B h2, seqT_butP hp trivial B h3, h4⟩
/-- the keys of the dict of steps, as data -/
theorem keys_steps {K : PySem.W.Frag} {H H' : Hp} {L : Lore} {s : Sett} {kvs : List (List Key × V)} {xs : List (Str × Bool)} {bs : List Addr} (hP : Paired (StepV K H L s) kvs xs) (hK : IsKeys H kvs bs) (S : Same H H') : DpAll K H' (bs.map V.ref) (xs.map stepD) := by
  unfold IsKeys at hK
  induction hP generalizing bs with
  | nil => cases hK; exact .nil
  | cons r _ ih =>
    cases hK with
    | cons h1 h2 =>
      rw [r.1] at h1
      exact .cons (.tup (.of (S _ _ h1)) (.cons (.str _) (.cons (.str _) .nil))) (ih h2)
/-! ### the law's own steps -/
theorem i_ifJ {tt : TT} {tb te : TS} {D : Ends} {σ : L2.St} {H : Hp} (R : L2.St → Hp → Prop) (h1 : ∀ N : L2.St → Hp → Prop, (∀ σ' H', R σ' H' → N σ' H') → tIfS tt tb te { D with nx := N } σ H) (h : ∀ σ' H', R σ' H' → D.nx σ' H') : tIfS tt tb te D σ H := h1 D.nx h
def stD (q : Rat) (m : Str) (o : Option Rat) : List (Str × Bool) := match o with | some d => if q < d then [(m, false)] else [] | none => []
def stU (q : Rat) (m : Str) (o : Option Rat) : List (Str × Bool) := match o with | some u => if u ≤ q then [(m, true)] else [] | none => []
theorem stepsR_eq {sp : Nat} {q : Rat} {m : Str} {r : Row} : stepsR sp q m r = stD q m (lowR sp r).D ++ stU q m r.U := rfl
theorem steps_succ {L : Lore} {s : Sett} {q : Rat} {i : Nat} {m : Str × List Row} {r : Row} (hm : L.meters[i]? = some m) (hr : (rowsAt L s)[i]? = some r) : ((L.meters.zip (rowsAt L s)).take (i + 1)).flatMap (fun mr => stepsR L.spread q mr.1.1 mr.2) = ((L.meters.zip (rowsAt L s)).take i).flatMap (fun mr => stepsR L.spread q mr.1.1 mr.2) ++ stD q m.1 (lowR L.spread r).D ++ stU q m.1 r.U := by
  have e : (L.meters.zip (rowsAt L s))[i]? = some (m, r) := List.getElem?_zip_eq_some.mpr ⟨hm, hr⟩
  rw [List.take_add_one, e, Option.toList_some, List.flatMap_append, List.append_assoc]
  simp [stepsR_eq]
section
variable {K : PySem.W.Frag} {H H' : Hp} {L : Lore} {s : Sett}
theorem stepL_same {xs : List V} {ys : List (Str × Bool)} (h : Paired (StepL K H L s) xs ys) (S : Same H H') : Paired (StepL K H' L s) xs ys :=
  Paired.mapP h fun _ _ ⟨t, st, vb, e, h1, h2, h3⟩ => ⟨t, st, vb, e, S.seqT h1, h2.same S, h3.same S⟩
theorem noL_step (x : Str × Bool) : noL (stepD x) = true := rfl
theorem stepL_but {xs : List V} {ys : List (Str × Bool)} {p : Addr} {o : HO} (h : Paired (StepL K H L s) xs ys) (hp : H p = some o) (B : But p H H') (pl : Plain o := by exact trivial) : Paired (StepL K H' L s) xs ys :=
  Paired.mapP h fun _ _ ⟨t, st, vb, e, h1, h2, h3⟩ => ⟨t, st, vb, e, seqT_butP hp pl B h1, dp_butN hp pl B (noL_step _) h2, dp_butN hp pl B (noL_setting _) h3⟩
end
/-! ### steps written out -/
theorem sho_stepD {x : Str × Bool} (h : NmOk x.1) : Sho 1 50 (stepD x) := by
  have := sho_tup (k := 0) (b := 8) (ds := [.str x.1, .str (wayS x.2)]) fun d hd => by
    simp only [List.mem_cons, List.not_mem_nil, or_false] at hd
    rcases hd with rfl | rfl
    · exact sho_name h
    · cases x.2
      · exact sho_str (lt_lit (by decide +kernel)) (by decide)
      · exact sho_str (lt_lit (by decide +kernel)) (by decide)
  exact this.mono (by decide) (by simp only [List.length_cons, List.length_nil]; omega)
theorem stepsQ_mem {L : Lore} {s : Sett} {q : Rat} {x : Str × Bool} (h : x ∈ stepsQ L s q) : ∃ m ∈ L.meters, x.1 = m.1 := by
  obtain ⟨mr, hmr, hx⟩ := List.mem_flatMap.mp h
  refine ⟨mr.1, (List.of_mem_zip hmr).1, ?_⟩
  rw [stepsR_eq] at hx
  rcases List.mem_append.mp hx with hx | hx
  · unfold stD at hx
    split at hx
    · split at hx
      · rw [List.mem_singleton.mp hx]
      · cases hx
    · cases hx
  · unfold stU at hx
    split at hx
    · split at hx
      · rw [List.mem_singleton.mp hx]
      · cases hx
    · cases hx
theorem stepsQ_len {L : Lore} (ok : LoreOk L) (s : Sett) (q : Rat) : (stepsQ L s q).length ≤ 6 := by
  unfold stepsQ
  have key : ∀ l : List ((Str × List Row) × Row), (l.flatMap fun mr => stepsR L.spread q mr.1.1 mr.2).length ≤ 2 * l.length := by
    intro l
    induction l with
    | nil => exact Nat.zero_le _
    | cons a l ih =>
      rw [List.flatMap_cons, List.length_append, List.length_cons]
      have : (stepsR L.spread q a.1.1 a.2).length ≤ 2 := by
        rw [stepsR_eq, List.length_append]
        have h1 : (stD q a.1.1 (lowR L.spread a.2).D).length ≤ 1 := by unfold stD; split; (split <;> simp); simp
        have h2 : (stU q a.1.1 a.2.U).length ≤ 1 := by unfold stU; split; (split <;> simp); simp
        omega
      omega
  have := key (L.meters.zip (rowsAt L s))
  rw [List.length_zip] at this
  have := ok.m3
  omega
theorem sho_steps {L : Lore} (ok : LoreOk L) (s : Sett) (v r : Rat) : Sho 2 400 (stepsD (stepsOf L s v r)) := by
  have hl := stepsQ_len ok s (readQ v r (drawQ L s))
  refine (sho_tup (k := 1) (b := 50) fun d hd => ?_).mono (by decide) (by rw [List.length_map]; show 51 * (stepsQ L s _).length ≤ 400; omega)
  obtain ⟨x, hx, rfl⟩ := List.mem_map.mp hd
  obtain ⟨m, hm, e⟩ := stepsQ_mem hx
  exact sho_stepD (by rw [e]; exact ok.mn m hm)
end My

local macro_rules | `(tactic| walk_at "h") => `(tactic| first
  | with_reducible refine My.i_seq ?_ | with_reducible refine My.i_asg ?_ | with_reducible refine My.i_gname ?_ | ((with_reducible refine' My.i_var ?e ?_); (case e => exact rfl)) | with_reducible refine My.i_c ?_ | with_reducible refine My.i_op ?_ | with_reducible refine My.i_un ?_
  | with_reducible refine My.i_I0 ?_ | with_reducible refine My.i_call ?_ | with_reducible refine My.i_cb ?_ | with_reducible refine My.i_cons ?_ | with_reducible refine My.i_nil ?_ | with_reducible refine My.i_ret ?_ | with_reducible refine My.i_retN ?_ | with_reducible refine My.i_drop ?_
  | with_reducible refine My.i_tup ?_ | with_reducible refine My.i_lst ?_ | with_reducible refine My.i_ife ?_ | with_reducible refine My.i_if ?_ | with_reducible refine My.i_test ?_ | with_reducible refine My.i_tB ?_ | with_reducible refine My.i_bl ?_ | with_reducible refine My.i_blv ?_
  | with_reducible refine My.i_not ?_ | with_reducible refine My.i_and ?_ | with_reducible refine My.i_or ?_ | with_reducible refine My.i_andV ?_ | with_reducible refine My.i_orV ?_ | with_reducible refine My.i_notV ?_ | with_reducible refine My.i_U ?_ | with_reducible refine My.i_next ?_
  | with_reducible refine My.i_par ?_ | with_reducible refine My.i_two ?_ | with_reducible refine My.i_int1 ?_ | with_reducible refine My.i_int1b ?_ | with_reducible refine My.i_abs ?_ | with_reducible refine My.i_max2 ?_ | with_reducible refine My.i_min2 ?_
  | ((with_reducible refine My.i_szT ?z ?_); (case z => exact Nat.le_of_ble_eq_true rfl); intro _ _ _ _ _) | ((with_reducible refine My.i_szL ?z ?_); (case z => exact Nat.le_of_ble_eq_true rfl); intro _ _ _ _ _)
  | with_reducible refine My.i_sub ?_ | with_reducible refine My.i_lstRg ?_ | with_reducible refine My.i_rg1 ?_ | with_reducible refine My.i_in ?_ | ((with_reducible refine' My.i_setL ?l ?e ?_); (case l => walk_at "look"); (case e => exact rfl); intro _ _ _) | with_reducible refine My.i_bm ?_ | with_reducible refine My.i_bm0 ?_
  | ((with_reducible refine' My.i_tyL (L2.SqL.of ?l) ?_); (case l => walk_at "look")) | ((with_reducible refine' My.i_app ?l ?e ?_); (case l => walk_at "look"); (case e => exact Nat.le_of_ble_eq_true rfl); intro _ _ _) | with_reducible refine L2.iteT ?_ | with_reducible refine L2.iteF ?_ | with_reducible refine My.ite_nt ?_ | with_reducible refine My.ite_nf ?_ | with_reducible refine My.i_gcd ?_
  | ((with_reducible refine' My.i_isiI ?e ?_); (case e => exact (by decide +kernel : L2.kitB _ _ = some _))) | with_reducible refine My.i_gcons ?_ | with_reducible refine My.i_gnil ?_
  | ((with_reducible refine' My.i_lenT ?l ?_); (case l => walk_at "lookT")) | ((with_reducible refine' My.i_lenL (L2.SqL.of ?l) ?_); (case l => walk_at "look")) | ((with_reducible refine' My.i_tupg ?l ?e ?_); (case l => walk_at "lookT"); (case e => rfl)) | with_reducible refine My.i_fld0 ?_ | with_reducible refine My.i_prop ?_ | with_reducible refine My.i_meth ?_ | with_reducible refine My.i_make ?_ | with_reducible refine My.i_sfld ?_
  | ((with_reducible refine' My.i_fv ?h ?c ?n ?_); (case h => walk_at "look"); (case c => assumption); (case n => assumption)) | ((with_reducible refine' My.i_fo ?h ?c ?n ?_); (case h => walk_at "look"); (case c => assumption); (case n => assumption))
  | ((with_reducible show My.PropQ _ _ _ _ _ _ _); (first | ((refine' My.i_pv ?h ?_); (case h => walk_at "look")) | ((refine' My.i_po ?h ?_); (case h => walk_at "look")))) | ((with_reducible refine' My.i_me ?h ?a ?b ?_); (case h => walk_at "look"); (case a => decide +kernel); (case b => decide +kernel)) | with_reducible refine My.i_lc ?_ | with_reducible refine My.i_for ?_ | with_reducible refine My.i_rng ?_ | with_reducible refine My.i_rngv (by decide) (by decide) ?_ | with_reducible refine My.i_wl ?_ | with_reducible refine My.i_wt ?_ | with_reducible refine My.i_par3 ?_ | with_reducible refine My.i_three ?_
  | ((with_reducible refine' My.i_wtv ?l ?_); (case l => walk_at "lookT")) | ((with_reducible refine' My.i_wlv (L2.SqL.of ?l) ?_); (case l => walk_at "look")) | walk_at "ix" | ((with_reducible refine' My.i_I ?c ?_); (case c => walk_at "side")))
local macro_rules | `(tactic| walk_at "side") => `(tactic| first | assumption | ((show (0 : Int) < _); omega) | (exact My.mulZ (by assumption) (by assumption) (by omega)) | (exact My.divS (by omega) (by omega)) | (exact My.mulS (by omega) (by omega) (by omega) (by omega)) | (exact My.powL (by decide +kernel)) | (exact My.pow3S (by omega) (by omega)))
local macro_rules | `(tactic| walk_at "look") => `(tactic| first | assumption | (apply (‹L2.Same _ _› : L2.Same _ _) _ _; walk_at "look") | ((refine' (‹My.But _ _ _› _ _ ?n ?l); (case n => walk_at "ne")); (case l => walk_at "look")))
local macro_rules | `(tactic| walk_at "ne") => `(tactic| first | assumption | (refine Ne.symm ?_; assumption) | exact L2.ne_of_none (by walk_at "lookS") (by assumption) | exact (L2.ne_of_none (by walk_at "lookS") (by assumption)).symm | exact L2.ne_of (by walk_at "lookS") (by walk_at "lookS") (by intro z; cases z))
local macro_rules | `(tactic| walk_at "lookS") => `(tactic| first | assumption | (apply (‹L2.Same _ _› : L2.Same _ _) _ _; walk_at "lookS"))
local macro_rules | `(tactic| walk_at "ix") => `(tactic| first
  | ((with_reducible refine' My.i_ixsL (L2.SqL.of ?l) ?e ?_); (case l => walk_at "look"); (case e => exact rfl)) | ((with_reducible refine' My.i_ixsT ?l ?e ?_); (case l => walk_at "lookT"); (case e => exact rfl)))
local macro_rules | `(tactic| walk_at "lookT") => `(tactic| first | assumption | exact L2.SqT.of (by walk_at "look") | (apply L2.Same.seqT ‹L2.Same _ _›; walk_at "lookT") | (apply My.Pot.but ‹My.Pot _ _ _› ‹My.But _ _ _›; walk_at "lookT"))
local macro_rules | `(tactic| walk_at "len") => `(tactic| (intro vs H Q E h; first | (obtain ⟨_, e, _⟩ := h; subst e; rfl) | (obtain ⟨_, _, e, _⟩ := h; subst e; rfl) | (obtain ⟨_, _, _, e, _⟩ := h; subst e; rfl) | (obtain ⟨_, _, _, _, e, _⟩ := h; subst e; rfl) | (obtain ⟨_, _, _, _, _, e, _⟩ := h; subst e; rfl) | (obtain ⟨_, _, _, _, _, _, e, _⟩ := h; subst e; rfl) | (obtain ⟨_, _, _, _, _, _, _, e, _⟩ := h; subst e; rfl) | (obtain ⟨_, _, _, _, _, _, _, _, e, _⟩ := h; subst e; rfl) | (obtain ⟨_, _, _, _, _, _, _, _, _, e, _⟩ := h; subst e; rfl) | (obtain ⟨_, _, _, _, _, _, _, _, _, _, e, _⟩ := h; subst e; rfl) | (obtain ⟨_, _, _, _, _, _, _, _, _, _, _, e, _⟩ := h; subst e; rfl) | (obtain ⟨_, _, _, _, _, _, _, _, _, _, _, _, e, _⟩ := h; subst e; rfl) | (obtain ⟨_, _, _, _, _, _, _, _, _, _, _, _, _, e, _⟩ := h; subst e; rfl)))
local macro_rules | `(tactic| walk_at "but") => `(tactic| first | exact My.But.refl _ | assumption | (refine My.But.trans ?_ ‹My.But _ _ _›; walk_at "but") | (refine My.But.trans ?_ (L2.Same.but ‹L2.Same _ _›); walk_at "but"))
local macro_rules | `(tactic| walk_at "same") => `(tactic| first | exact L2.Same.refl _ | assumption | (refine L2.Same.trans ?_ ‹L2.Same _ _›; walk_at "same"))

local macro_rules | `(tactic| walk_at "h") => `(tactic| walk_at "hb")
local macro_rules | `(tactic| walk_at "hb") => `(tactic| first
  | with_reducible refine My.i_dget ?_ | with_reducible refine My.i_sfldB ?_ | with_reducible refine My.i_ipI ?_ | ((with_reducible refine' My.i_aug ?e ?_); (case e => exact rfl)) | with_reducible refine My.i_isN ?_ | with_reducible refine My.i_zip ?_ | with_reducible refine My.i_fmt ?_ | with_reducible refine My.i_rng2 ?_ | with_reducible refine My.i_chain ?_ | with_reducible refine My.i_chb ?_ | with_reducible refine My.i_str ?_ | with_reducible refine My.i_strv ?_ | with_reducible refine My.i_strv2 ?_ | with_reducible refine My.i_nt ?_ | with_reducible refine My.i_din ?_ | with_reducible refine My.i_dnin ?_ | with_reducible refine My.i_dput ?_ | with_reducible refine My.i_dget1 ?_ | with_reducible refine My.i_sl ?_ | with_reducible refine My.i_noP ?_ | with_reducible refine My.i_someP ?_ | with_reducible refine My.i_slS ?_ | with_reducible refine My.i_star ?_
  | ((with_reducible refine' My.i_dgS ?l ?e ?_); (case l => walk_at "look"); (case e => exact rfl))
  | ((with_reducible refine' My.i_dgF ?l ?e ?_); (case l => walk_at "look"); (case e => exact rfl))
  | ((with_reducible refine' My.i_dg1 ?l ?_); (case l => walk_at "look"))
  | with_reducible refine My.i_eqS ?_ | with_reducible refine My.i_neSt ?_ | with_reducible refine My.i_tyS ?_ | with_reducible refine My.i_js ?_ | with_reducible refine My.i_js0 ?_ | with_reducible refine My.i_isiStr ?_ | with_reducible refine My.i_dc ?_ | with_reducible refine My.i_lc2 ?_ | with_reducible refine My.i_keys ?_
  | ((with_reducible refine' My.i_starL (L2.SqL.of ?l) ?_); (case l => walk_at "look")) | ((with_reducible refine' My.i_starT ?l ?_); (case l => walk_at "lookT"))
  | ((with_reducible refine' My.i_slL (L2.SqL.of ?l) ?_); (case l => walk_at "look"); intro _ _ _ _ _)
  | ((with_reducible refine' My.i_slSv (L2.SqL.of ?l) ?c ?_); (case l => walk_at "look"); (case c => (intro z; cases z)); intro _ _ _ _ _)
  | ((with_reducible refine' My.ite_dn ?c ?_); (case c => (intro z; cases z))) | ((with_reducible refine' My.ite_ndn ?c ?_); (case c => (intro z; cases z))))
local macro_rules | `(tactic| walk_at "toand") => `(tactic| repeat ((fail_if_success (with_reducible refine My.i_and ?_)); walk_at "h"))
local macro_rules | `(tactic| walk_at "toor") => `(tactic| repeat ((fail_if_success (with_reducible refine My.i_or ?_)); walk_at "h"))
local macro_rules | `(tactic| walk_at "toif") => `(tactic| repeat ((fail_if_success (with_reducible refine My.i_if ?_)); walk_at "h"))
local macro_rules | `(tactic| walk_at "free") => `(tactic| first | assumption | (refine L2.Same.free (‹L2.Same _ _›) ?_; walk_at "free"))

namespace Lw
open PySem PySem.Spec PyProof.Rows L2 My
structure Tx (K : PySem.W.Frag) (mg : Str → Option Value) : Prop where
  f__wall : GFn K mg "_wall" s__wall ["k"]
  f_is_integer : GFn K mg "is_integer" s_is_integer ["value"]
  f_is_ratio : GFn K mg "is_ratio" s_is_ratio ["value"]
  f_is_name : GFn K mg "is_name" s_is_name ["word"]
  f_ratio : GFn K mg "ratio" s_ratio ["above", "below"]
  f_plus : GFn K mg "plus" s_plus ["one", "other"]
  f_times : GFn K mg "times" s_times ["one", "other"]
  f_over : GFn K mg "over" s_over ["one", "other"]
  f_at_least : GFn K mg "at_least" s_at_least ["one", "other"]
  f_whole_of : GFn K mg "whole_of" s_whole_of ["word"]
  f_ratio_of : GFn K mg "ratio_of" s_ratio_of ["word"]
  f_merged : GFn K mg "merged" s_merged ["one", "other"]
  f_ascending : GFn K mg "ascending" s_ascending ["rows"]
  f_need_setting : GFn K mg "need_setting" s_need_setting ["bench", "setting"]
  f_ranges_of : GFn K mg "ranges_of" s_ranges_of ["bench", "setting"]
  f_draw_of : GFn K mg "draw_of" s_draw_of ["bench", "setting"]
  f_setting_behind : GFn K mg "setting_behind" s_setting_behind ["bench", "setting", "step"]
  f_moves_at : GFn K mg "moves_at" s_moves_at ["bench", "setting"]
  f_reaches : GFn K mg "reaches" s_reaches ["source", "line"]
  f_possible : GFn K mg "possible" s_possible ["bench", "setting", "source"]
  f_steps : GFn K mg "steps" s_steps ["bench", "setting", "source"]
  f_figure_of : GFn K mg "figure_of" s_figure_of ["word"]
  f_line_at : GFn K mg "line_at" s_line_at ["lines", "at"]
  f_spread_of : GFn K mg "spread_of" s_spread_of ["line"]
  f_is_in_sequence : GFn K mg "is_in_sequence" s_is_in_sequence ["told", "ahead"]
  f_range_of : GFn K mg "range_of" s_range_of ["line", "ranges"]
  f_read_meter : GFn K mg "read_meter" s_read_meter ["lines", "at", "meters"]
  f_read_meters : GFn K mg "read_meters" s_read_meters ["lines", "at"]
  f_read_loads : GFn K mg "read_loads" s_read_loads ["lines", "at"]
  f_lowered : GFn K mg "lowered" s_lowered ["ranges", "spread"]
  f_all_settings : GFn K mg "all_settings" s_all_settings ["ranges", "loads"]
  f_weakening : GFn K mg "weakening" s_weakening ["ohms", "load"]
  f_repeated : GFn K mg "repeated" s_repeated ["source", "many"]
  f_covers : GFn K mg "covers" s_covers ["one", "other"]
  f__law_pot : GFn K mg "_law_pot" s__law_pot ["_law_script", "_law_place"]
  f__law_take : GFn K mg "_law_take" s__law_take ["_law_pot_here", "_law_upto"]
  f__law_of : GFn K mg "_law_of" s__law_of ["_law_pot_here", "_law_some_here"]
  f__law_some : GFn K mg "_law_some" s__law_some ["_law_pot_here", "_law_pool", "_law_many"]
  f__law_cells : GFn K mg "_law_cells" s__law_cells ["_law_script", "_law_most"]
  f__law_names : GFn K mg "_law_names" s__law_names ["_law_pot_here", "_law_many"]
  f__law_common : GFn K mg "_law_common" s__law_common ["_law_one", "_law_other"]
  f__law_pair : GFn K mg "_law_pair" s__law_pair ["_law_above", "_law_under"]
  f__law_plus : GFn K mg "_law_plus" s__law_plus ["_law_one", "_law_other"]
  f__law_times : GFn K mg "_law_times" s__law_times ["_law_one", "_law_other"]
  f__law_over : GFn K mg "_law_over" s__law_over ["_law_one", "_law_other"]
  f__law_is_less : GFn K mg "_law_is_less" s__law_is_less ["_law_one", "_law_other"]
  f__law_ratio_text : GFn K mg "_law_ratio_text" s__law_ratio_text ["_law_ratio"]
  f__law_loads_of : GFn K mg "_law_loads_of" s__law_loads_of ["_law_pot_here", "_law_many", "_law_way"]
  f__law_ranges : GFn K mg "_law_ranges" s__law_ranges ["_law_pot_here", "_law_many", "_law_way"]
  f__law_lore : GFn K mg "_law_lore" s__law_lore ["_law_pot_here", "_law_shape_here", "_law_way", "_law_loads"]
  f__law_shape : GFn K mg "_law_shape" s__law_shape ["_law_pot_here"]
  f__law_row_line : GFn K mg "_law_row_line" s__law_row_line ["_law_row"]
  f__law_text : GFn K mg "_law_text" s__law_text ["_law_lore_here"]
  f__law_lower : GFn K mg "_law_lower" s__law_lower ["_law_lore_here", "_law_row"]
  f__law_settings : GFn K mg "_law_settings" s__law_settings ["_law_lore_here"]
  f__law_rows : GFn K mg "_law_rows" s__law_rows ["_law_lore_here", "_law_setting"]
  f__law_draw : GFn K mg "_law_draw" s__law_draw ["_law_lore_here", "_law_setting"]
  f__law_read : GFn K mg "_law_read" s__law_read ["_law_heft", "_law_source_here"]
  f__law_moved : GFn K mg "_law_moved" s__law_moved ["_law_lore_here", "_law_setting", "_law_at", "_law_by"]
  f__law_steps : GFn K mg "_law_steps" s__law_steps ["_law_lore_here", "_law_setting", "_law_source_here"]
  f__law_source : GFn K mg "_law_source" s__law_source ["_law_pot_here"]
  f__law_near_source : GFn K mg "_law_near_source" s__law_near_source ["_law_pot_here", "_law_lore_here"]
  f__law_drawn : GFn K mg "_law_drawn" s__law_drawn ["_law_pot_here", "_law_way"]
  f__law_any_source : GFn K mg "_law_any_source" s__law_any_source ["_law_pot_here", "_law_lore_here"]
  f__law_right : GFn K mg "_law_right" s__law_right ["_law_pot_here"]
  f_law : GFn K mg "law" s_law ["_law_script"]
  b_ValueError : mg "ValueError" = none
  b_int : mg "int" = none
  b_zip : mg "zip" = none
  b_tuple : mg "tuple" = none
  b_range : mg "range" = none
  b_any : mg "any" = none
  b_list : mg "list" = none
  b_enumerate : mg "enumerate" = none
  b_sorted : mg "sorted" = none
  b_isinstance : mg "isinstance" = none
  b_all : mg "all" = none
  b_len : mg "len" = none
  b_abs : mg "abs" = none
  b_str : mg "str" = none
  b_set : mg "set" = none
  b_bool : mg "bool" = none
  b_max : mg "max" = none
  b_min : mg "min" = none
  b_repr : mg "repr" = none
  b_gcd : mg "gcd" = some (.builtin "math.gcd")
  c_Bench : Cls K (He.ga K "Bench")
  k_Bench : GMk K mg "Bench"
  s_Bench : PySem.W.selfFirst K (He.ga K "Bench") = true
  a_Bench__text : NoAttr K (He.ga K "Bench") "_text"
  a_Bench__spread : NoAttr K (He.ga K "Bench") "_spread"
  a_Bench__ranges : NoAttr K (He.ga K "Bench") "_ranges"
  a_Bench__loads : NoAttr K (He.ga K "Bench") "_loads"
  a_Bench__settings : NoAttr K (He.ga K "Bench") "_settings"
  d_Bench___init__ : GMe K (He.ga K "Bench") "__init__" "Bench.__init__" s_Bench___init__ ["self", "text"]
  p_Bench_text : GPr K (He.ga K "Bench") "text" "Bench.text" s_Bench_text
  p_Bench_meters : GPr K (He.ga K "Bench") "meters" "Bench.meters" s_Bench_meters
  p_Bench_loads : GPr K (He.ga K "Bench") "loads" "Bench.loads" s_Bench_loads
  p_Bench_spread : GPr K (He.ga K "Bench") "spread" "Bench.spread" s_Bench_spread
  p_Bench_settings : GPr K (He.ga K "Bench") "settings" "Bench.settings" s_Bench_settings
  p_Bench_first : GPr K (He.ga K "Bench") "first" "Bench.first" s_Bench_first
  d_Bench_load : GMe K (He.ga K "Bench") "load" "Bench.load" s_Bench_load ["self", "name"]
  d_Bench_without : GMe K (He.ga K "Bench") "without" "Bench.without" s_Bench_without ["self", "meter"]
  d_Bench_spread_by : GMe K (He.ga K "Bench") "spread_by" "Bench.spread_by" s_Bench_spread_by ["self", "many"]
  d_Bench___getitem__ : GMe K (He.ga K "Bench") "__getitem__" "Bench.__getitem__" s_Bench___getitem__ ["self", "at"]
  d_Bench___len__ : GMe K (He.ga K "Bench") "__len__" "Bench.__len__" s_Bench___len__ ["self"]
  d_Bench___contains__ : GMe K (He.ga K "Bench") "__contains__" "Bench.__contains__" s_Bench___contains__ ["self", "x"]
  o_Bench___eq__ : GOp K (He.ga K "Bench") "__eq__" "Bench.__eq__" s_Bench___eq__
  d_Bench___iter__ : GMe K (He.ga K "Bench") "__iter__" "Bench.__iter__" s_Bench___iter__ ["self"]
  c_Source : Cls K (He.ga K "Source")
  k_Source : GMk K mg "Source"
  s_Source : PySem.W.selfFirst K (He.ga K "Source") = true
  a_Source__volts : NoAttr K (He.ga K "Source") "_volts"
  a_Source__ohms : NoAttr K (He.ga K "Source") "_ohms"
  d_Source___init__ : GMe K (He.ga K "Source") "__init__" "Source.__init__" s_Source___init__ ["self", "volts", "ohms"]
  p_Source_volts : GPr K (He.ga K "Source") "volts" "Source.volts" s_Source_volts
  p_Source_ohms : GPr K (He.ga K "Source") "ohms" "Source.ohms" s_Source_ohms
  d_Source_at : GMe K (He.ga K "Source") "at" "Source.at" s_Source_at ["self", "load"]
  d_Source_under : GMe K (He.ga K "Source") "under" "Source.under" s_Source_under ["self", "load"]
  o_Source___add__ : GOp K (He.ga K "Source") "__add__" "Source.__add__" s_Source___add__
  o_Source___and__ : GOp K (He.ga K "Source") "__and__" "Source.__and__" s_Source___and__
  o_Source___mul__ : GOp K (He.ga K "Source") "__mul__" "Source.__mul__" s_Source___mul__
  o_Source___rmul__ : GOp K (He.ga K "Source") "__rmul__" "Source.__rmul__" s_Source___rmul__
  o_Source___ge__ : GOp K (He.ga K "Source") "__ge__" "Source.__ge__" s_Source___ge__
  o_Source___le__ : GOp K (He.ga K "Source") "__le__" "Source.__le__" s_Source___le__
  o_Source___eq__ : GOp K (He.ga K "Source") "__eq__" "Source.__eq__" s_Source___eq__
  m_WAYS : mg "WAYS" = some (.ref (He.ga K "WAYS"))
  t_WAYS : ∀ H, SqT K H (He.ga K "WAYS") [V.str "down", V.str "up"]
  m_ONE : mg "ONE" = some (.ref (He.ga K "ONE"))
  t_ONE : ∀ H, SqT K H (He.ga K "ONE") [V.int 1, V.int 1]
  m_ZERO : mg "ZERO" = some (.ref (He.ga K "ZERO"))
  t_ZERO : ∀ H, SqT K H (He.ga K "ZERO") [V.int 0, V.int 1]
  y_Bench : InsC K (He.ga K "Bench")
  g_Bench : PySem.W.fnIn K (He.ma K (He.ga K "Bench") "__getitem__") = true
  l_Bench : spcB K (He.ga K "Bench") "__len__" = true
  n_Bench : neB K (He.ga K "Bench") = true
  x_Bench : ∀ n ∈ kinds7, PySem.W.notFirst K (He.ga K "Bench") (.type n) = true ∧ PySem.W.kitOne K (.type n) (.ref (He.ga K "Bench")) = some false
  m_MOST_METERS : ∃ t, mg "MOST_METERS" = some (.int 3 t)
  m_MOST_RANGES : ∃ t, mg "MOST_RANGES" = some (.int 4 t)
  m_MOST_LOADS : ∃ t, mg "MOST_LOADS" = some (.int 2 t)
  m_MOST_SPREAD : ∃ t, mg "MOST_SPREAD" = some (.int 20 t)
  m_MOST_PART : ∃ t, mg "MOST_PART" = some (.int 9999 t)
  m_LONGEST_RATIO : ∃ t, mg "LONGEST_RATIO" = some (.int 9 t)
  y_Source : InsC K (He.ga K "Source")
/-! ### the end -/
theorem tx {K : PySem.W.Frag} {h : Heap} {mg : Str → Option Value} (X : K.In h) (G : h.Ns mainGlobals mg) (c : obsK ex ds K = valK ds) : Tx K mg := by
  obtain ⟨e1, e2⟩ := He.ba (says_ex c)
  have E0 : bltB K "gcd" "math.gcd" = true := all_get e2 0 rfl
  have E1 : PySem.W.selfFirst K (He.ga K "Bench") = true := all_get e2 1 rfl
  have E2 : propB K "Bench" "text" = true := all_get e2 2 rfl
  have E3 : propB K "Bench" "meters" = true := all_get e2 3 rfl
  have E4 : propB K "Bench" "loads" = true := all_get e2 4 rfl
  have E5 : propB K "Bench" "spread" = true := all_get e2 5 rfl
  have E6 : propB K "Bench" "settings" = true := all_get e2 6 rfl
  have E7 : propB K "Bench" "first" = true := all_get e2 7 rfl
  have E8 : PySem.W.selfFirst K (He.ga K "Source") = true := all_get e2 8 rfl
  have E9 : propB K "Source" "volts" = true := all_get e2 9 rfl
  have E10 : propB K "Source" "ohms" = true := all_get e2 10 rfl
  have E11 : He.tupB K "WAYS" [.str "down", .str "up"] = true := all_get e2 11 rfl
  have E12 : He.tupB K "ONE" [.int 1, .int 1] = true := all_get e2 12 rfl
  have E13 : He.tupB K "ZERO" [.int 0, .int 1] = true := all_get e2 13 rfl
  have E14 : insB K "Bench" = true := all_get e2 14 rfl
  have E15 : PySem.W.fnIn K (He.ma K (He.ga K "Bench") "__getitem__") = true := all_get e2 15 rfl
  have E16 : spcB K (He.ga K "Bench") "__len__" = true := all_get e2 16 rfl
  have E17 : neB K (He.ga K "Bench") = true := all_get e2 17 rfl
  have E18 : kinds7.all (fun n => PySem.W.notFirst K (He.ga K "Bench") (.type n) && decide (PySem.W.kitOne K (.type n) (.ref (He.ga K "Bench")) = some false)) = true := all_get e2 18 rfl
  have E19 : intB K "MOST_METERS" 3 = true := all_get e2 19 rfl
  have E20 : intB K "MOST_RANGES" 4 = true := all_get e2 20 rfl
  have E21 : intB K "MOST_LOADS" 2 = true := all_get e2 21 rfl
  have E22 : intB K "MOST_SPREAD" 20 = true := all_get e2 22 rfl
  have E23 : intB K "MOST_PART" 9999 = true := all_get e2 23 rfl
  have E24 : intB K "LONGEST_RATIO" 9 = true := all_get e2 24 rfl
  have E25 : insB K "Source" = true := all_get e2 25 rfl
  exact {
    f__wall := gfn_of X G (all_get e1 0 rfl) (says_fun c 0 rfl) (fun _ _ _ _ _ _ us hl => match us, hl with | [_], _ => rfl)
    f_is_integer := gfn_of X G (all_get e1 1 rfl) (says_fun c 1 rfl) (fun _ _ _ _ _ _ us hl => match us, hl with | [_], _ => rfl)
    f_is_ratio := gfn_of X G (all_get e1 2 rfl) (says_fun c 2 rfl) (fun _ _ _ _ _ _ us hl => match us, hl with | [_], _ => rfl)
    f_is_name := gfn_of X G (all_get e1 3 rfl) (says_fun c 3 rfl) (fun _ _ _ _ _ _ us hl => match us, hl with | [_], _ => rfl)
    f_ratio := gfn_of X G (all_get e1 4 rfl) (says_fun c 4 rfl) (fun _ _ _ _ _ _ us hl => match us, hl with | [_, _], _ => rfl)
    f_plus := gfn_of X G (all_get e1 5 rfl) (says_fun c 5 rfl) (fun _ _ _ _ _ _ us hl => match us, hl with | [_, _], _ => rfl)
    f_times := gfn_of X G (all_get e1 6 rfl) (says_fun c 6 rfl) (fun _ _ _ _ _ _ us hl => match us, hl with | [_, _], _ => rfl)
    f_over := gfn_of X G (all_get e1 7 rfl) (says_fun c 7 rfl) (fun _ _ _ _ _ _ us hl => match us, hl with | [_, _], _ => rfl)
    f_at_least := gfn_of X G (all_get e1 8 rfl) (says_fun c 8 rfl) (fun _ _ _ _ _ _ us hl => match us, hl with | [_, _], _ => rfl)
    f_whole_of := gfn_of X G (all_get e1 9 rfl) (says_fun c 9 rfl) (fun _ _ _ _ _ _ us hl => match us, hl with | [_], _ => rfl)
    f_ratio_of := gfn_of X G (all_get e1 10 rfl) (says_fun c 10 rfl) (fun _ _ _ _ _ _ us hl => match us, hl with | [_], _ => rfl)
    f_merged := gfn_of X G (all_get e1 11 rfl) (says_fun c 11 rfl) (fun _ _ _ _ _ _ us hl => match us, hl with | [_, _], _ => rfl)
    f_ascending := gfn_of X G (all_get e1 12 rfl) (says_fun c 12 rfl) (fun _ _ _ _ _ _ us hl => match us, hl with | [_], _ => rfl)
    f_need_setting := gfn_of X G (all_get e1 13 rfl) (says_fun c 13 rfl) (fun _ _ _ _ _ _ us hl => match us, hl with | [_, _], _ => rfl)
    f_ranges_of := gfn_of X G (all_get e1 14 rfl) (says_fun c 14 rfl) (fun _ _ _ _ _ _ us hl => match us, hl with | [_, _], _ => rfl)
    f_draw_of := gfn_of X G (all_get e1 15 rfl) (says_fun c 15 rfl) (fun _ _ _ _ _ _ us hl => match us, hl with | [_, _], _ => rfl)
    f_setting_behind := gfn_of X G (all_get e1 16 rfl) (says_fun c 16 rfl) (fun _ _ _ _ _ _ us hl => match us, hl with | [_, _, _], _ => rfl)
    f_moves_at := gfn_of X G (all_get e1 17 rfl) (says_fun c 17 rfl) (fun _ _ _ _ _ _ us hl => match us, hl with | [_, _], _ => rfl)
    f_reaches := gfn_of X G (all_get e1 18 rfl) (says_fun c 18 rfl) (fun _ _ _ _ _ _ us hl => match us, hl with | [_, _], _ => rfl)
    f_possible := gfn_of X G (all_get e1 19 rfl) (says_fun c 19 rfl) (fun _ _ _ _ _ _ us hl => match us, hl with | [_, _, _], _ => rfl)
    f_steps := gfn_of X G (all_get e1 20 rfl) (says_fun c 20 rfl) (fun _ _ _ _ _ _ us hl => match us, hl with | [_, _, _], _ => rfl)
    f_figure_of := gfn_of X G (all_get e1 21 rfl) (says_fun c 21 rfl) (fun _ _ _ _ _ _ us hl => match us, hl with | [_], _ => rfl)
    f_line_at := gfn_of X G (all_get e1 22 rfl) (says_fun c 22 rfl) (fun _ _ _ _ _ _ us hl => match us, hl with | [_, _], _ => rfl)
    f_spread_of := gfn_of X G (all_get e1 23 rfl) (says_fun c 23 rfl) (fun _ _ _ _ _ _ us hl => match us, hl with | [_], _ => rfl)
    f_is_in_sequence := gfn_of X G (all_get e1 24 rfl) (says_fun c 24 rfl) (fun _ _ _ _ _ _ us hl => match us, hl with | [_, _], _ => rfl)
    f_range_of := gfn_of X G (all_get e1 25 rfl) (says_fun c 25 rfl) (fun _ _ _ _ _ _ us hl => match us, hl with | [_, _], _ => rfl)
    f_read_meter := gfn_of X G (all_get e1 26 rfl) (says_fun c 26 rfl) (fun _ _ _ _ _ _ us hl => match us, hl with | [_, _, _], _ => rfl)
    f_read_meters := gfn_of X G (all_get e1 27 rfl) (says_fun c 27 rfl) (fun _ _ _ _ _ _ us hl => match us, hl with | [_, _], _ => rfl)
    f_read_loads := gfn_of X G (all_get e1 28 rfl) (says_fun c 28 rfl) (fun _ _ _ _ _ _ us hl => match us, hl with | [_, _], _ => rfl)
    f_lowered := gfn_of X G (all_get e1 29 rfl) (says_fun c 29 rfl) (fun _ _ _ _ _ _ us hl => match us, hl with | [_, _], _ => rfl)
    f_all_settings := gfn_of X G (all_get e1 30 rfl) (says_fun c 30 rfl) (fun _ _ _ _ _ _ us hl => match us, hl with | [_, _], _ => rfl)
    f_weakening := gfn_of X G (all_get e1 31 rfl) (says_fun c 31 rfl) (fun _ _ _ _ _ _ us hl => match us, hl with | [_, _], _ => rfl)
    f_repeated := gfn_of X G (all_get e1 32 rfl) (says_fun c 32 rfl) (fun _ _ _ _ _ _ us hl => match us, hl with | [_, _], _ => rfl)
    f_covers := gfn_of X G (all_get e1 33 rfl) (says_fun c 33 rfl) (fun _ _ _ _ _ _ us hl => match us, hl with | [_, _], _ => rfl)
    f__law_pot := gfn_of X G (all_get e1 34 rfl) (says_fun c 34 rfl) (fun _ _ _ _ _ _ us hl => match us, hl with | [_, _], _ => rfl)
    f__law_take := gfn_of X G (all_get e1 35 rfl) (says_fun c 35 rfl) (fun _ _ _ _ _ _ us hl => match us, hl with | [_, _], _ => rfl)
    f__law_of := gfn_of X G (all_get e1 36 rfl) (says_fun c 36 rfl) (fun _ _ _ _ _ _ us hl => match us, hl with | [_, _], _ => rfl)
    f__law_some := gfn_of X G (all_get e1 37 rfl) (says_fun c 37 rfl) (fun _ _ _ _ _ _ us hl => match us, hl with | [_, _, _], _ => rfl)
    f__law_cells := gfn_of X G (all_get e1 38 rfl) (says_fun c 38 rfl) (fun _ _ _ _ _ _ us hl => match us, hl with | [_, _], _ => rfl)
    f__law_names := gfn_of X G (all_get e1 39 rfl) (says_fun c 39 rfl) (fun _ _ _ _ _ _ us hl => match us, hl with | [_, _], _ => rfl)
    f__law_common := gfn_of X G (all_get e1 40 rfl) (says_fun c 40 rfl) (fun _ _ _ _ _ _ us hl => match us, hl with | [_, _], _ => rfl)
    f__law_pair := gfn_of X G (all_get e1 41 rfl) (says_fun c 41 rfl) (fun _ _ _ _ _ _ us hl => match us, hl with | [_, _], _ => rfl)
    f__law_plus := gfn_of X G (all_get e1 42 rfl) (says_fun c 42 rfl) (fun _ _ _ _ _ _ us hl => match us, hl with | [_, _], _ => rfl)
    f__law_times := gfn_of X G (all_get e1 43 rfl) (says_fun c 43 rfl) (fun _ _ _ _ _ _ us hl => match us, hl with | [_, _], _ => rfl)
    f__law_over := gfn_of X G (all_get e1 44 rfl) (says_fun c 44 rfl) (fun _ _ _ _ _ _ us hl => match us, hl with | [_, _], _ => rfl)
    f__law_is_less := gfn_of X G (all_get e1 45 rfl) (says_fun c 45 rfl) (fun _ _ _ _ _ _ us hl => match us, hl with | [_, _], _ => rfl)
    f__law_ratio_text := gfn_of X G (all_get e1 46 rfl) (says_fun c 46 rfl) (fun _ _ _ _ _ _ us hl => match us, hl with | [_], _ => rfl)
    f__law_loads_of := gfn_of X G (all_get e1 47 rfl) (says_fun c 47 rfl) (fun _ _ _ _ _ _ us hl => match us, hl with | [_, _, _], _ => rfl)
    f__law_ranges := gfn_of X G (all_get e1 48 rfl) (says_fun c 48 rfl) (fun _ _ _ _ _ _ us hl => match us, hl with | [_, _, _], _ => rfl)
    f__law_lore := gfn_of X G (all_get e1 49 rfl) (says_fun c 49 rfl) (fun _ _ _ _ _ _ us hl => match us, hl with | [_, _, _, _], _ => rfl)
    f__law_shape := gfn_of X G (all_get e1 50 rfl) (says_fun c 50 rfl) (fun _ _ _ _ _ _ us hl => match us, hl with | [_], _ => rfl)
    f__law_row_line := gfn_of X G (all_get e1 51 rfl) (says_fun c 51 rfl) (fun _ _ _ _ _ _ us hl => match us, hl with | [_], _ => rfl)
    f__law_text := gfn_of X G (all_get e1 52 rfl) (says_fun c 52 rfl) (fun _ _ _ _ _ _ us hl => match us, hl with | [_], _ => rfl)
    f__law_lower := gfn_of X G (all_get e1 53 rfl) (says_fun c 53 rfl) (fun _ _ _ _ _ _ us hl => match us, hl with | [_, _], _ => rfl)
    f__law_settings := gfn_of X G (all_get e1 54 rfl) (says_fun c 54 rfl) (fun _ _ _ _ _ _ us hl => match us, hl with | [_], _ => rfl)
    f__law_rows := gfn_of X G (all_get e1 55 rfl) (says_fun c 55 rfl) (fun _ _ _ _ _ _ us hl => match us, hl with | [_, _], _ => rfl)
    f__law_draw := gfn_of X G (all_get e1 56 rfl) (says_fun c 56 rfl) (fun _ _ _ _ _ _ us hl => match us, hl with | [_, _], _ => rfl)
    f__law_read := gfn_of X G (all_get e1 57 rfl) (says_fun c 57 rfl) (fun _ _ _ _ _ _ us hl => match us, hl with | [_, _], _ => rfl)
    f__law_moved := gfn_of X G (all_get e1 58 rfl) (says_fun c 58 rfl) (fun _ _ _ _ _ _ us hl => match us, hl with | [_, _, _, _], _ => rfl)
    f__law_steps := gfn_of X G (all_get e1 59 rfl) (says_fun c 59 rfl) (fun _ _ _ _ _ _ us hl => match us, hl with | [_, _, _], _ => rfl)
    f__law_source := gfn_of X G (all_get e1 60 rfl) (says_fun c 60 rfl) (fun _ _ _ _ _ _ us hl => match us, hl with | [_], _ => rfl)
    f__law_near_source := gfn_of X G (all_get e1 61 rfl) (says_fun c 61 rfl) (fun _ _ _ _ _ _ us hl => match us, hl with | [_, _], _ => rfl)
    f__law_drawn := gfn_of X G (all_get e1 62 rfl) (says_fun c 62 rfl) (fun _ _ _ _ _ _ us hl => match us, hl with | [_, _], _ => rfl)
    f__law_any_source := gfn_of X G (all_get e1 63 rfl) (says_fun c 63 rfl) (fun _ _ _ _ _ _ us hl => match us, hl with | [_, _], _ => rfl)
    f__law_right := gfn_of X G (all_get e1 64 rfl) (says_fun c 64 rfl) (fun _ _ _ _ _ _ us hl => match us, hl with | [_], _ => rfl)
    f_law := gfn_of X G (all_get e1 65 rfl) (says_fun c 65 rfl) (fun _ _ _ _ _ _ us hl => match us, hl with | [_], _ => rfl)
    b_ValueError := He.free_ok X G (all_get e1 66 rfl)
    b_int := He.free_ok X G (all_get e1 67 rfl)
    b_zip := He.free_ok X G (all_get e1 68 rfl)
    b_tuple := He.free_ok X G (all_get e1 69 rfl)
    b_range := He.free_ok X G (all_get e1 70 rfl)
    b_any := He.free_ok X G (all_get e1 71 rfl)
    b_list := He.free_ok X G (all_get e1 72 rfl)
    b_enumerate := He.free_ok X G (all_get e1 73 rfl)
    b_sorted := He.free_ok X G (all_get e1 74 rfl)
    b_isinstance := He.free_ok X G (all_get e1 75 rfl)
    b_all := He.free_ok X G (all_get e1 76 rfl)
    b_len := He.free_ok X G (all_get e1 77 rfl)
    b_abs := He.free_ok X G (all_get e1 78 rfl)
    b_str := He.free_ok X G (all_get e1 79 rfl)
    b_set := He.free_ok X G (all_get e1 80 rfl)
    b_bool := He.free_ok X G (all_get e1 81 rfl)
    b_max := He.free_ok X G (all_get e1 82 rfl)
    b_min := He.free_ok X G (all_get e1 83 rfl)
    b_repr := He.free_ok X G (all_get e1 84 rfl)
    b_gcd := bltB_ok X G (E0)
    c_Bench := He.cls_ok (all_get e1 85 rfl)
    k_Bench := gmk_of X G (all_get e1 86 rfl) (all_get e1 87 rfl)
    s_Bench := E1
    a_Bench__text := He.noat_ok (all_get e1 88 rfl)
    a_Bench__spread := He.noat_ok (all_get e1 89 rfl)
    a_Bench__ranges := He.noat_ok (all_get e1 90 rfl)
    a_Bench__loads := He.noat_ok (all_get e1 91 rfl)
    a_Bench__settings := He.noat_ok (all_get e1 92 rfl)
    d_Bench___init__ := gme_of (all_get e1 93 rfl) (says_fun c 66 rfl) (fun _ _ _ _ _ _ us hl => match us, hl with | [_, _], _ => rfl)
    p_Bench_text := gpr_of (E2) (says_fun c 67 rfl) (fun _ _ _ _ _ _ us hl => match us, hl with | [_], _ => rfl)
    p_Bench_meters := gpr_of (E3) (says_fun c 68 rfl) (fun _ _ _ _ _ _ us hl => match us, hl with | [_], _ => rfl)
    p_Bench_loads := gpr_of (E4) (says_fun c 69 rfl) (fun _ _ _ _ _ _ us hl => match us, hl with | [_], _ => rfl)
    p_Bench_spread := gpr_of (E5) (says_fun c 70 rfl) (fun _ _ _ _ _ _ us hl => match us, hl with | [_], _ => rfl)
    p_Bench_settings := gpr_of (E6) (says_fun c 71 rfl) (fun _ _ _ _ _ _ us hl => match us, hl with | [_], _ => rfl)
    p_Bench_first := gpr_of (E7) (says_fun c 72 rfl) (fun _ _ _ _ _ _ us hl => match us, hl with | [_], _ => rfl)
    d_Bench_load := gme_of (all_get e1 94 rfl) (says_fun c 73 rfl) (fun _ _ _ _ _ _ us hl => match us, hl with | [_, _], _ => rfl)
    d_Bench_without := gme_of (all_get e1 95 rfl) (says_fun c 74 rfl) (fun _ _ _ _ _ _ us hl => match us, hl with | [_, _], _ => rfl)
    d_Bench_spread_by := gme_of (all_get e1 96 rfl) (says_fun c 75 rfl) (fun _ _ _ _ _ _ us hl => match us, hl with | [_, _], _ => rfl)
    d_Bench___getitem__ := gme_of (all_get e1 97 rfl) (says_fun c 76 rfl) (fun _ _ _ _ _ _ us hl => match us, hl with | [_, _], _ => rfl)
    d_Bench___len__ := gme_of (all_get e1 98 rfl) (says_fun c 77 rfl) (fun _ _ _ _ _ _ us hl => match us, hl with | [_], _ => rfl)
    d_Bench___contains__ := gme_of (all_get e1 99 rfl) (says_fun c 78 rfl) (fun _ _ _ _ _ _ us hl => match us, hl with | [_, _], _ => rfl)
    o_Bench___eq__ := gop_of (all_get e1 100 rfl) (says_fun c 79 rfl) (fun _ _ _ _ _ _ us hl => match us, hl with | [_, _], _ => rfl)
    d_Bench___iter__ := gme_of (all_get e1 101 rfl) (says_fun c 80 rfl) (fun _ _ _ _ _ _ us hl => match us, hl with | [_], _ => rfl)
    c_Source := He.cls_ok (all_get e1 102 rfl)
    k_Source := gmk_of X G (all_get e1 103 rfl) (all_get e1 104 rfl)
    s_Source := E8
    a_Source__volts := He.noat_ok (all_get e1 105 rfl)
    a_Source__ohms := He.noat_ok (all_get e1 106 rfl)
    d_Source___init__ := gme_of (all_get e1 107 rfl) (says_fun c 81 rfl) (fun _ _ _ _ _ _ us hl => match us, hl with | [_, _, _], _ => rfl)
    p_Source_volts := gpr_of (E9) (says_fun c 82 rfl) (fun _ _ _ _ _ _ us hl => match us, hl with | [_], _ => rfl)
    p_Source_ohms := gpr_of (E10) (says_fun c 83 rfl) (fun _ _ _ _ _ _ us hl => match us, hl with | [_], _ => rfl)
    d_Source_at := gme_of (all_get e1 108 rfl) (says_fun c 84 rfl) (fun _ _ _ _ _ _ us hl => match us, hl with | [_, _], _ => rfl)
    d_Source_under := gme_of (all_get e1 109 rfl) (says_fun c 85 rfl) (fun _ _ _ _ _ _ us hl => match us, hl with | [_, _], _ => rfl)
    o_Source___add__ := gop_of (all_get e1 110 rfl) (says_fun c 86 rfl) (fun _ _ _ _ _ _ us hl => match us, hl with | [_, _], _ => rfl)
    o_Source___and__ := gop_of (all_get e1 111 rfl) (says_fun c 87 rfl) (fun _ _ _ _ _ _ us hl => match us, hl with | [_, _], _ => rfl)
    o_Source___mul__ := gop_of (all_get e1 112 rfl) (says_fun c 88 rfl) (fun _ _ _ _ _ _ us hl => match us, hl with | [_, _], _ => rfl)
    o_Source___rmul__ := gop_of (all_get e1 113 rfl) (says_fun c 89 rfl) (fun _ _ _ _ _ _ us hl => match us, hl with | [_, _], _ => rfl)
    o_Source___ge__ := gop_of (all_get e1 114 rfl) (says_fun c 90 rfl) (fun _ _ _ _ _ _ us hl => match us, hl with | [_, _], _ => rfl)
    o_Source___le__ := gop_of (all_get e1 115 rfl) (says_fun c 91 rfl) (fun _ _ _ _ _ _ us hl => match us, hl with | [_, _], _ => rfl)
    o_Source___eq__ := gop_of (all_get e1 116 rfl) (says_fun c 92 rfl) (fun _ _ _ _ _ _ us hl => match us, hl with | [_, _], _ => rfl)
    m_WAYS := He.glo_ok X G (all_get e1 117 rfl)
    t_WAYS := He.tupB_ok (E11)
    m_ONE := He.glo_ok X G (all_get e1 118 rfl)
    t_ONE := He.tupB_ok (E12)
    m_ZERO := He.glo_ok X G (all_get e1 119 rfl)
    t_ZERO := He.tupB_ok (E13)
    y_Bench := insB_ok (E14)
    g_Bench := E15
    l_Bench := E16
    n_Bench := E17
    x_Bench := kinds7_ok E18
    m_MOST_METERS := intB_ok X G E19
    m_MOST_RANGES := intB_ok X G E20
    m_MOST_LOADS := intB_ok X G E21
    m_MOST_SPREAD := intB_ok X G E22
    m_MOST_PART := intB_ok X G E23
    m_LONGEST_RATIO := intB_ok X G E24
    y_Source := insB_ok (E25)
  }
theorem law_fd {K : PySem.W.Frag} {mg : Str → Option Value} (T : Tx K mg) : ∀ (s : Shared) (v : Value), BindsTo s (fdOf K (He.ga K "law")) ⟨[v], []⟩ [("_law_script", v)] := by
  obtain ⟨oc, od, kV, doc, pm, an, cdv, ct, osl, e, hl, hc⟩ := T.f_law.f.ex
  have F : FunD K "law" "law" (defArgs s_law) (defBody s_law) (defScope s_law) [] [] (He.ga K "law") (fdOf K (He.ga K "law")) := ⟨⟨oc, od, .none, kV, doc, pm, an, cdv, ct, osl, e, hl, hc, .inl ⟨rfl, rfl⟩, .inl rfl⟩, T.f_law.f.kp⟩
  have b := FunD.bindsA (ps := ["_law_script"]) F fun _ _ _ _ _ _ us hl => match us, hl with | [_], _ => rfl
  exact fun s v => b s [v] rfl
section
variable {P : Program} {w : World} {K : PySem.W.Frag} {mg : Str → Option Value} {base : Heap}
theorem sc_is_integer : FnScope ["value"] ["value"] (defScope s_is_integer) := ⟨rfl, rfl, rfl, by decide +kernel, rfl, by decide +kernel, by decide +kernel⟩
theorem ok_is_integer (T : Tx K mg) : FnAt P w K mg base CX0 1 (He.ga K "is_integer") ["value"] spIsInt := by
  refine T.f_is_integer.f.ok sc_is_integer ?_ (fun cdv A outer s H vs Q E hr h => ?_)
  · walk_at "len"
  · obtain ⟨i, rfl, k⟩ := h
    refine ⟨_, (pss_one (ps_ret (pe_and (pe_callB call_isi rfl T.b_isinstance (by decide +kernel) (pa_cons (pv 0) (pa_cons (pe_bltn (v := .ty "int") rfl T.b_int (by decide +kernel) rfl) pa_nil))) (pe_one (pe_not (pe_callB call_isi rfl T.b_isinstance (by decide +kernel) (pa_cons (pv 0) (pa_cons (pe_bltn (v := .ty "bool") rfl T.b_bool (by decide +kernel) rfl) pa_nil)))))))), ?_⟩
    refine My.i_go (σ' := [some _]) rfl ?_
    repeat walk_at "h"
    refine i_isiI (b := true) (by decide +kernel) ?_
    repeat walk_at "h"
    refine i_isiI (b := false) (by decide +kernel) ?_
    repeat walk_at "h"
    exact k
theorem sc_is_name : FnScope ["word", "sign"] ["word"] (defScope s_is_name) := ⟨rfl, rfl, rfl, by decide +kernel, rfl, by decide +kernel, by decide +kernel⟩
theorem ok_is_name (T : Tx K mg) : FnAt P w K mg base CX0 1 (He.ga K "is_name") ["word"] spIsName := by
  refine T.f_is_name.f.ok sc_is_name ?_ (fun cdv A outer s H vs Q E hr h => ?_)
  · walk_at "len"
  · obtain ⟨n, rfl, hn, k⟩ := h
    have h1 := hn.lo; have h2 := hn.hi
    have hsz : n.cps.size = n.length := rfl
    refine ⟨_, (pss_one (ps_ret (pe_and (pe_chain op_le op_le pe_int (pe_callB cr_len rfl T.b_len (by decide +kernel) (pa_cons (pv 0) pa_nil)) pe_int) (pe_one (pe_callB (cr_all rfl) rfl T.b_all (by decide +kernel) (pa_cons (pe_lc (own := [("sign", 1)]) rfl sc_is_name.nd (pi_str (pv 0)) (blkOk_by (own := [("sign", 1)]) (N := ["word", "sign"]) (sc := defScope s_is_name) (by decide +kernel)) (fun _ _ _ _ _ => (pg_name (i := 1) sc_is_name.nd rfl (.inl rfl))) (fun _ _ _ _ _ => pts_nil) (fun _ _ _ _ _ => (pe_chain op_leSt op_leSt pe_str (pv 1) pe_str))) pa_nil)))))), ?_⟩
    refine My.i_go (σ' := [some _, none]) rfl ?_
    repeat walk_at "h"
    refine i_lenS (Nat.le_trans h2 (by decide)) ?_
    repeat walk_at "h"
    refine ite_d (by omega) ?_
    repeat walk_at "h"
    refine ite_d (by omega) ?_
    repeat walk_at "h"
    refine lcq_y (n := n.cps.size) (fun A i H' acc => H A = none ∧ Same H H' ∧ H' A = some (.lst acc) ∧ acc = (List.replicate i true).map V.bl) (fun A H' S hA e => ⟨hA, S, e, rfl⟩) (fun A i H' acc hi _ => hi) (fun A H' acc _ => Nat.le_refl _) ?_ ?_
    · rintro A i x H' H1 acc hi ⟨hA, S, e, ea⟩ ⟨rfl, c, hc, rfl⟩
      repeat walk_at "h"
      refine ⟨rfl, ?_⟩
      have hm : c ∈ n.cps.toList := by
        obtain ⟨hlt, e2⟩ := Array.getElem?_eq_some_iff.mp hc
        rw [← e2, ← Array.getElem_toList]
        exact List.getElem_mem _
      have haz := hn.az c hm
      repeat walk_at "h"
      have e1 : (!decide ((⟨#[c]⟩ : Str).cps.toList < (Str.ofString "a").cps.toList)) = true := by
        have : ¬ ([c] < [97]) := by simp only [List.cons_lt_cons_iff]; simp; omega
        show (!decide ([c] < [97])) = true
        rw [decide_eq_false this]; rfl
      have e2 : (!decide ((Str.ofString "z").cps.toList < (⟨#[c]⟩ : Str).cps.toList)) = true := by
        have : ¬ ([122] < [c]) := by simp only [List.cons_lt_cons_iff]; simp; omega
        show (!decide ([122] < [c])) = true
        rw [decide_eq_false this]; rfl
      refine i_leS ?_
      rw [e1]
      repeat walk_at "h"
      refine i_leS ?_
      rw [e2]
      refine turnC_end e (by rw [ea]; simp; omega) fun H5 B e5 => ⟨hA, Same.ext S hA B, e5, ?_⟩
      rw [ea, List.replicate_succ', List.map_append]
      rfl
    · rintro A H' acc ⟨hA, S, e, ea⟩
      repeat walk_at "h"
      refine i_all (bs := List.replicate n.cps.size true) (.of (ea ▸ e)) ?_
      rw [show (List.replicate n.cps.size true).all id = true by simp]
      exact k H' S
theorem sc_ratio : FnScope ["above", "below", "common"] ["above", "below"] (defScope s_ratio) := ⟨rfl, rfl, rfl, by decide +kernel, rfl, by decide +kernel, by decide +kernel⟩
theorem ok_ratio (T : Tx K mg) : FnAt P w K mg base CX0 1 (He.ga K "ratio") ["above", "below"] spPair := by
  refine T.f_ratio.f.ok sc_ratio ?_ (fun cdv A outer s H vs Q E hr h => ?_)
  · walk_at "len"
  · obtain ⟨a, b, rfl, hb, sa, sb, k⟩ := h
    refine ⟨_, (pss_cons (ps_set (i := 2) sc_ratio.nd rfl (.inl rfl) (pe_callBfun cr_gcd rfl T.b_gcd (pa_cons (pv 0) (pa_cons (pv 1) pa_nil))))
      (pss_one (ps_ret (pe_tup (pa_cons (pe_op op_fdivW (pv 0) (pv 2)) (pa_cons (pe_op op_fdivW (pv 1) (pv 2)) pa_nil)))))), ?_⟩
    refine My.i_go (σ' := [some _, some _, none]) rfl ?_
    obtain ⟨d1, d2⟩ := gcd_div (a := a) hb sb
    repeat walk_at "h"
    rename_i p H1 S hp e
    rw [rat_div hb] at e
    exact k p H1 S hp e
theorem sc_at_least : FnScope ["one", "other"] ["one", "other"] (defScope s_at_least) := ⟨rfl, rfl, rfl, by decide +kernel, rfl, by decide +kernel, by decide +kernel⟩
theorem ok_at_least (T : Tx K mg) : FnAt P w K mg base CX0 1 (He.ga K "at_least") ["one", "other"] (spAtLeast K) := by
  refine T.f_at_least.f.ok sc_at_least ?_ (fun cdv A outer s H vs Q E hr h => ?_)
  · walk_at "len"
  · obtain ⟨a, b, p, q, j, rfl, hp, hq, zp, zq, hj, k⟩ := h
    have z1 := zp.1; have z2 := zp.den; have z3 := zq.1; have z4 := zq.den
    refine ⟨_, (pss_one (ps_ret (pe_cmpR op_ge (pe_op op_mulW (pe_ix ix_seq (pv 0) pe_int (fun _ _ => rfl)) (pe_ix ix_seq (pv 1) pe_int (fun _ _ => rfl))) (pe_op op_mulW (pe_ix ix_seq (pv 1) pe_int (fun _ _ => rfl)) (pe_ix ix_seq (pv 0) pe_int (fun _ _ => rfl))) (nomark _)))), ?_⟩
    refine My.i_go (σ' := [some _, some _]) rfl ?_
    repeat walk_at "h"
    rw [decide_eq_decide.mpr (le_nd p q).symm]
    exact k
theorem ok_at_least_raw (T : Tx K mg) : FnAt P w K mg base CX0 1 (He.ga K "at_least") ["one", "other"] (spAtLeastRaw K) := by
  refine T.f_at_least.f.ok sc_at_least ?_ (fun cdv A outer s H vs Q E hr h => ?_)
  · walk_at "len"
  · obtain ⟨a, b, p, n, d, rfl, hp, hq, hd, zp, zn, zd, k⟩ := h
    have c1 : CMulW p.num d := mulZ (a := 300) zp.1 zd (by decide)
    have c2 : CMulW n (p.den : Int) := mulZ (a := 300) zn zp.den (by decide)
    refine ⟨_, (pss_one (ps_ret (pe_cmpR op_ge (pe_op op_mulW (pe_ix ix_seq (pv 0) pe_int (fun _ _ => rfl)) (pe_ix ix_seq (pv 1) pe_int (fun _ _ => rfl))) (pe_op op_mulW (pe_ix ix_seq (pv 1) pe_int (fun _ _ => rfl)) (pe_ix ix_seq (pv 0) pe_int (fun _ _ => rfl))) (nomark _)))), ?_⟩
    refine My.i_go (σ' := [some _, some _]) rfl ?_
    repeat walk_at "h"
    rw [← decide_eq_decide.mpr (le_raw (n := n) (d := d) (p := p) hd)]
    exact k
theorem sc_whole_of : FnScope ["word"] ["word"] (defScope s_whole_of) := ⟨rfl, rfl, rfl, by decide +kernel, rfl, by decide +kernel, by decide +kernel⟩
theorem ok_whole_of (T : Tx K mg) : FnAt P w K mg base CX0 1 (He.ga K "whole_of") ["word"] spWhole := by
  refine T.f_whole_of.f.ok sc_whole_of ?_ (fun cdv A outer s H vs Q E hr h => ?_)
  · walk_at "len"
  · obtain ⟨n, rfl, hn, k⟩ := h
    have hl : (nS n).length ≤ 5 := nS_len (by decide) hn
    have hz : (nS n).length ≤ sizeLine := Nat.le_trans hl (by decide)
    refine ⟨_, (pss_cons (ps_if (PW.pt (pw_or (pt_not (pt_val (pe_bm0 PySem.F.plainAttrs_str PySem.F.slot_str_isascii PySem.F.type_str_isascii mt_isascii (pv 0)))) (pw_or1 (pt_not (pt_val (pe_bm0 PySem.F.plainAttrs_str PySem.F.slot_str_isdigit PySem.F.type_str_isdigit mt_isdigit (pv 0))))))) (pss_one (ps_ret pe_non)) pss_nil)
      (pss_cons (ps_if (PW.pt (pw_and (pt_cmpR op_gt (pe_callB cr_len rfl T.b_len (by decide +kernel) (pa_cons (pv 0) pa_nil)) pe_int (nomark _)) (pw_and1 (pt_cmpR op_eq (pe_ix ix_seq (pv 0) pe_int (fun _ _ => rfl)) pe_str (nomark _))))) (pss_one (ps_ret pe_non)) pss_nil)
      (pss_one (ps_ret (pe_callTy call_int_str rfl T.b_int (by decide +kernel) (pa_cons (pv 0) pa_nil)))))), ?_⟩
    refine My.i_go (σ' := [some _]) rfl ?_
    repeat walk_at "h"
    rw [nS_ascii]
    repeat walk_at "h"
    rw [nS_digit]
    repeat walk_at "h"
    refine i_lenS hz ?_
    repeat walk_at "h"
    refine ite2 (fun h1 => ?_) (fun h1 => ?_)
    · have h1 := of_decide_eq_true h1
      obtain ⟨c, e1, e2⟩ := nS_head (n := n) (by omega)
      repeat walk_at "h"
      refine i_ixsS hz e1 ?_
      repeat walk_at "h"
      rw [decide_eq_false (fun z => e2 (List.cons.inj (show [c] = [48] from congrArg (fun x : Str => x.cps.toList) z)).1)]
      repeat walk_at "h"
      exact i_intS (nS_int n hn) (by omega) k
    · repeat walk_at "h"
      exact i_intS (nS_int n hn) (by omega) k
theorem sc_merged : FnScope ["one", "other", "rows", "at", "by"] ["one", "other"] (defScope s_merged) := ⟨rfl, rfl, rfl, by decide +kernel, rfl, by decide +kernel, by decide +kernel⟩
theorem ok_merged (T : Tx K mg) : FnAt P w K mg base CX0 1 (He.ga K "merged") ["one", "other"] (spMerged K) := by
  refine T.f_merged.f.ok sc_merged ?_ (fun cdv A outer s H vs Q E hr h => ?_)
  · walk_at "len"
  · obtain ⟨a, b, ds, es, rfl, hda, hea, nd, ne, hF, hz, k⟩ := h
    obtain ⟨a', xs, ea, hxs, dxs⟩ := dp_tup hda
    cases ea
    obtain ⟨b', ys, eb, hys, dys⟩ := dp_tup hea
    cases eb
    have hxl := dpAll_len dxs
    have hyl := dpAll_len dys
    have fin : ∀ n : Nat, n ≤ 1000 → n ≤ sizeLine := fun n h => Nat.le_trans h (by decide)
    refine ⟨_, (pss_cons (ps_set (i := 2) sc_merged.nd rfl (.inl rfl) (pe_lst pa_nil))
      (pss_cons (ps_set (i := 3) sc_merged.nd rfl (.inl rfl) pe_int)
      (pss_cons (ps_set (i := 4) sc_merged.nd rfl (.inl rfl) pe_int)
      (pss_cons (ps_while PassesOwn.never (PW.pt (pw_and (pt_cmpR op_lt (pv 3) (pe_callB cr_len rfl T.b_len (by decide +kernel) (pa_cons (pv 0) pa_nil)) (nomark _)) (pw_and1 (pt_cmpR op_lt (pv 4) (pe_callB cr_len rfl T.b_len (by decide +kernel) (pa_cons (pv 1) pa_nil)) (nomark _))))) (pss_one (ps_if (pt_cmpR (op_ltD hr.units) (pe_ix ix_seq (pv 1) (pv 4) (fun _ _ => rfl)) (pe_ix ix_seq (pv 0) (pv 3) (fun _ _ => rfl)) (nomark _)) (pss_cons (ps_expr (pe_bm PySem.F.plainAttrs_list PySem.F.slot_list_append PySem.F.type_list_append mt_append (pv 2) (pa_cons (pe_ix ix_seq (pv 1) (pv 4) (fun _ _ => rfl)) pa_nil)))
      (pss_one (ps_aug (i := 4) sc_merged.nd rfl (.inl rfl) pe_int ip_add))) (pss_cons (ps_expr (pe_bm PySem.F.plainAttrs_list PySem.F.slot_list_append PySem.F.type_list_append mt_append (pv 2) (pa_cons (pe_ix ix_seq (pv 0) (pv 3) (fun _ _ => rfl)) pa_nil)))
      (pss_one (ps_aug (i := 3) sc_merged.nd rfl (.inl rfl) pe_int ip_add))))))
      (pss_one (ps_ret (pe_op op_catA (pe_op op_catA (pe_callTy cr_tupN rfl T.b_tuple (by decide +kernel) (pa_cons (pv 2) pa_nil)) (pe_slice sl_tupA (pv 0) (po_some (pv 3)) po_none)) (pe_slice sl_tupA (pv 1) (po_some (pv 4)) po_none)))))))), ?_⟩
    refine My.i_go (σ' := [some _, some _, none, none, none]) rfl ?_
    repeat walk_at "h"
    rename_i p0 H1 S1 hp0 e1
    refine while_q (fun σ' H' => ∃ (i j : Nat) (acc : List V) (R : List PyData), σ' = [some (.ref a), some (.ref b), some (.ref p0), some (.int i), some (.int j)] ∧ i ≤ ds.length ∧ j ≤ es.length ∧ H' p0 = some (.lst acc) ∧ DpAll K H' acc R ∧ noLAll R = true ∧ R.length = i + j ∧ R ++ mrg (ds.drop i) (es.drop j) = mrg ds es ∧ Same H H') (fun σ' _ => match σ'[3]?, σ'[4]? with | some (some (V.int i)), some (some (V.int j)) => 2000 - (i + j).toNat | _, _ => 0) ⟨0, 0, [], [], rfl, Nat.zero_le _, Nat.zero_le _, e1, .nil, rfl, rfl, by simp, S1⟩ ?_
    rintro σ' H' ⟨i, j, acc, R, rfl, hi, hj, e2, dR, nR, lR, eR, S2⟩ QB hT hF'
    have done : i = ds.length ∨ j = es.length → QB false H' := fun hend => by
      refine hF' H' ?_
      repeat walk_at "h"
      refine i_tupN (.of e2) fun p3 H3 S3 hp3 e3 => ?_
      repeat walk_at "h"
      have hal : acc.length = i + j := by rw [dpAll_len dR, lR]
      refine i_slA (S3.seqT (S2.seqT hxs)) fun p4 H4 S4 q4 => ?_
      rw [cut_from (by omega)] at q4
      refine i_catA (S4.seqT (.of e3)) q4 (fin _ (by rw [List.length_drop]; omega)) fun p5 H5 S5 q5 => ?_
      repeat walk_at "h"
      have S35 := (S3.trans S4).trans S5
      refine i_slA (S35.seqT (S2.seqT hys)) fun p6 H6 S6 q6 => ?_
      rw [cut_from (by omega)] at q6
      refine i_catA (S6.seqT q5) q6 (fin _ (by rw [List.length_append, List.length_drop, List.length_drop]; omega)) fun p7 H7 S7 q7 => ?_
      have S37 := (S35.trans S6).trans S7
      have e9 : R ++ ds.drop i ++ es.drop j = mrg ds es := by
        rw [← eR]
        rcases hend with rfl | rfl
        · rw [List.drop_length, mrg_nil, List.append_nil]
        · rw [List.drop_length, mrg_nil2, List.append_nil]
      refine k p7 H7 (S2.trans S37) (.tup q7 ?_)
      rw [← e9]
      exact dpAll_app (dpAll_app (dR.same S37) (dpAll_drop i (dxs.same (S2.trans S37)))) (dpAll_drop j (dys.same (S2.trans S37)))
    repeat walk_at "h"
    refine ite2 (fun h1 => ?_) (fun h1 => done (.inl (by have h1 : ¬ ((i : Int) < (xs.length : Int)) := fun z => h1 (decide_eq_true z); omega)))
    have h1 := of_decide_eq_true h1
    repeat walk_at "h"
    refine if h2 : (j : Int) < (ys.length : Int) then ?_ else (by rw [decide_eq_false h2]; exact done (.inr (by omega)))
    rw [decide_eq_true h2]
    refine hT H' ?_
    have hi2 : i < ds.length := by omega
    have hj2 : j < es.length := by omega
    have hal : acc.length = i + j := by rw [dpAll_len dR, lR]
    obtain ⟨vx, gx, dx⟩ := dpAll_at (dxs.same S2) (List.getElem?_eq_getElem hi2)
    obtain ⟨vy, gy, dy⟩ := dpAll_at (dys.same S2) (List.getElem?_eq_getElem hj2)
    have hdr : mrg (ds.drop i) (es.drop j) = if PySem.W.dataLt es[j] ds[i] then es[j] :: mrg (ds.drop i) (es.drop (j + 1)) else ds[i] :: mrg (ds.drop (i + 1)) (es.drop j) := by
      rw [← List.getElem_cons_drop hi2, ← List.getElem_cons_drop hj2, mrg_cons]
    have f1 := hF es[j] (List.mem_append_right _ (List.getElem_mem hj2)) ds[i] (List.mem_append_left _ (List.getElem_mem hi2))
    have nx : noL ds[i] = true := (noLAll_iff ds).mp nd _ (List.getElem_mem hi2)
    have ny : noL es[j] = true := (noLAll_iff es).mp ne _ (List.getElem_mem hj2)
    repeat walk_at "h"
    refine i_ixsT (S2.seqT hys) (atI_nat gy) ?_
    repeat walk_at "h"
    refine i_ixsT (S2.seqT hxs) (atI_nat gx) ?_
    refine i_ltD dy dx f1.1 f1.2.1 f1.2.2 ?_
    repeat walk_at "h"
    refine ite_b (fun hlt => ?_) (fun hlt => ?_)
    · rw [if_pos hlt] at hdr
      repeat walk_at "h"
      refine i_ixsT (S2.seqT hys) (atI_nat gy) ?_
      repeat walk_at "h"
      refine i_app e2 (by rw [hal]; exact Nat.lt_of_lt_of_le (show i + j < 1000 by omega) (by decide)) fun H3 B3 e3 => ?_
      repeat walk_at "h"
      refine ⟨⟨i, j + 1, _, R ++ [es[j]], rfl, hi, by omega, e3, dpAll_snoc (dpAll_butN e2 trivial B3 nR dR) (dp_butN e2 trivial B3 ny dy), ?_, by rw [List.length_append, lR]; rfl, ?_, Same.ext S2 hp0 B3⟩, ?_⟩
      · rw [noLAll_iff] at nR ⊢
        intro d hd
        rcases List.mem_append.mp hd with hd | hd
        · exact nR d hd
        · rw [List.mem_singleton.mp hd]; exact ny
      · rw [List.append_assoc, ← eR, hdr]
        rfl
      · show 2000 - ((i : Int) + ((j : Int) + 1)).toNat < 2000 - ((i : Int) + (j : Int)).toNat
        omega
    · rw [if_neg (by rw [hlt]; exact fun z => by cases z)] at hdr
      repeat walk_at "h"
      refine i_ixsT (S2.seqT hxs) (atI_nat gx) ?_
      repeat walk_at "h"
      refine i_app e2 (by rw [hal]; exact Nat.lt_of_lt_of_le (show i + j < 1000 by omega) (by decide)) fun H3 B3 e3 => ?_
      repeat walk_at "h"
      refine ⟨⟨i + 1, j, _, R ++ [ds[i]], rfl, by omega, hj, e3, dpAll_snoc (dpAll_butN e2 trivial B3 nR dR) (dp_butN e2 trivial B3 nx dx), ?_, by rw [List.length_append, lR]; simp only [List.length_cons, List.length_nil]; omega, ?_, Same.ext S2 hp0 B3⟩, ?_⟩
      · rw [noLAll_iff] at nR ⊢
        intro d hd
        rcases List.mem_append.mp hd with hd | hd
        · exact nR d hd
        · rw [List.mem_singleton.mp hd]; exact nx
      · rw [List.append_assoc, ← eR, hdr]
        rfl
      · show 2000 - (((i : Int) + 1) + (j : Int)).toNat < 2000 - ((i : Int) + (j : Int)).toNat
        omega
theorem sc_line_at : FnScope ["lines", "at"] ["lines", "at"] (defScope s_line_at) := ⟨rfl, rfl, rfl, by decide +kernel, rfl, by decide +kernel, by decide +kernel⟩
theorem ok_line_at (T : Tx K mg) : FnAt P w K mg base CX0 1 (He.ga K "line_at") ["lines", "at"] (spLineAt K) := by
  refine T.f_line_at.f.ok sc_line_at ?_ (fun cdv A outer s H vs Q E hr h => ?_)
  · walk_at "len"
  · obtain ⟨a, i, ls, rfl, hl, k⟩ := h
    refine ⟨_, (pss_one (ps_ret (pe_ifExp (pt_cmpR op_lt (pv 1) (pe_callB cr_len rfl T.b_len (by decide +kernel) (pa_cons (pv 0) pa_nil)) (nomark _)) (pe_ix ix_seq (pv 0) (pv 1) (fun _ _ => rfl)) pe_str))), ?_⟩
    refine My.i_go (σ' := [some _, some _]) rfl ?_
    repeat walk_at "h"
    refine i_lenL hl ?_
    repeat walk_at "h"
    rw [List.length_map]
    refine ite2 (fun h1 => ?_) (fun h1 => ?_)
    · have h1 := of_decide_eq_true h1
      have hi : i < ls.length := by omega
      repeat walk_at "h"
      refine i_ixsL hl (atI_nat (j := i) (v := .str ls[i]) (by rw [List.getElem?_map, List.getElem?_eq_getElem hi, Option.map_some])) ?_
      rw [List.getD_eq_getElem?_getD, List.getElem?_eq_getElem hi] at k
      exact k
    · have h1 : ¬ ((i : Int) < (ls.length : Int)) := fun z => h1 (decide_eq_true z)
      repeat walk_at "h"
      rw [List.getD_eq_getElem?_getD, List.getElem?_eq_none (by omega)] at k
      exact k
theorem sc_spread_of : FnScope ["line", "many"] ["line"] (defScope s_spread_of) := ⟨rfl, rfl, rfl, by decide +kernel, rfl, by decide +kernel, by decide +kernel⟩
theorem ok_spread_of (T : Tx K mg) : FnAt P w K mg base CX0 1 (He.ga K "spread_of") ["line"] (spSpreadOf) := by
  refine T.f_spread_of.f.ok sc_spread_of ?_ (fun cdv A outer s H vs Q E hr h => ?_)
  · walk_at "len"
  · obtain ⟨l, rfl, k⟩ := h
    refine ⟨_, (pss_cons (ps_for PassesOwn.never rfl (pi_range2 rfl T.b_range (pa_cons pe_int (pa_cons (pe_op op_add (pe_globI rfl T.m_MOST_SPREAD) pe_int) pa_nil))) (pg_name (i := 1) sc_spread_of.nd rfl (.inl rfl)) (pss_one (ps_if (pt_cmpR op_eq (pv 0) (pe_joined (.cons pe_str (.cons (pe_fmt (pv 1)) .nil))) (nomark _)) (pss_one (ps_ret (pv 1))) pss_nil)))
      (pss_one (ps_ret pe_int))), ?_⟩
    refine My.i_go (σ' := [some _, none]) rfl ?_
    repeat walk_at "h"
    refine i_rng2v (by decide) (by decide) (by decide) (by decide) ?_
    refine forq_n (n := 20) (fun i σ' H' => H' = H ∧ (∃ w, σ' = [some (.str l), w]) ∧ ∀ k, k < i → l ≠ spreadLine (k + 1)) ⟨rfl, ⟨_, rfl⟩, fun k hk => by omega⟩ (fun i σ' H' hi _ => hi) (fun σ' H' _ => Nat.le_refl _) ?_ ?_
    · rintro i x σ' H' H1 hi ⟨rfl, ⟨w1, rfl⟩, hno⟩ ⟨rfl, rfl⟩
      repeat walk_at "h"
      refine i_jsv (by decide) ?_
      repeat walk_at "h"
      refine i_fmtI (Nat.lt_of_lt_of_le (show (1 + (i : Int)).natAbs < 64 by omega) (by decide)) ?_
      have e : Str.empty ++ ("spread " : Str) ++ (Str.ofString (toString (1 + (i : Int)))) = spreadLine (i + 1) := by
        rw [Str.empty_append, ← spreadLine_eq]
        have : (1 + (i : Int)) = ((i + 1 : Nat) : Int) := by omega
        rw [this]
        rfl
      have hlen : (spreadLine (i + 1)).length ≤ sizeLine := by
        rw [← spreadLine_eq, Str.length_append]
        have a := nS_len (n := i + 1) (k := 2) (by decide) (by omega)
        have b : (("spread " : String) : Str).length = 7 := rfl
        exact Nat.le_trans (by omega : _ ≤ 9) (by decide)
      refine i_jsv (by rw [e]; exact hlen) ?_
      rw [e]
      repeat walk_at "h"
      refine ite2 (fun h1 => ?_) (fun h1 => ?_)
      · have h1 := of_decide_eq_true h1
        repeat walk_at "h"
        have e2 : spreadNum l = i + 1 := by
          unfold spreadNum
          have : (List.range 20).find? (fun k => decide (l = spreadLine (k + 1))) = some i := by
            rw [List.find?_range_eq_some]
            exact ⟨decide_eq_true h1, List.mem_range.mpr hi, fun j hj => by simpa using hno j hj⟩
          rw [this]; rfl
        rw [e2] at k
        have : ((i + 1 : Nat) : Int) = 1 + (i : Int) := by omega
        rw [this] at k
        exact k
      · have h1 : ¬ l = spreadLine (i + 1) := fun z => h1 (decide_eq_true z)
        repeat walk_at "h"
        refine ⟨rfl, ⟨_, rfl⟩, fun k hk => ?_⟩
        rcases Nat.lt_succ_iff_lt_or_eq.mp hk with h | rfl
        · exact hno k h
        · exact h1
    · rintro σ' H' ⟨rfl, ⟨w1, rfl⟩, hno⟩
      repeat walk_at "h"
      have e2 : spreadNum l = 0 := by
        unfold spreadNum
        have : (List.range 20).find? (fun k => decide (l = spreadLine (k + 1))) = none := by
          rw [List.find?_eq_none]
          exact fun j hj => by simpa using hno j (List.mem_range.mp hj)
        rw [this]; rfl
      rw [e2] at k
      exact k
theorem sc__law_pot : FnScope ["_law_script", "_law_place", "_law_cell", "_law_own", "_law_small"] ["_law_script", "_law_place"] (defScope s__law_pot) := ⟨rfl, rfl, rfl, by decide +kernel, rfl, by decide +kernel, by decide +kernel⟩
theorem ok__law_pot (T : Tx K mg) : FnAt P w K mg base CX0 1 (He.ga K "_law_pot") ["_law_script", "_law_place"] (spPot K) := by
  refine T.f__law_pot.f.ok sc__law_pot ?_ (fun cdv A outer s H vs Q E hr h => ?_)
  · walk_at "len"
  · obtain ⟨a, ns, i, rfl, hx, hi, hi2, k⟩ := h
    refine ⟨_, (pss_cons (ps_set (i := 2) sc__law_pot.nd rfl (.inl rfl) (pe_ifExp (pt_cmpR op_lt (pv 1) (pe_callB cr_len rfl T.b_len (by decide +kernel) (pa_cons (pv 0) pa_nil)) (nomark _)) (pe_ix ix_seq (pv 0) (pv 1) (fun _ _ => rfl)) (pe_op op_add (pe_op op_mulW pe_int (pv 1)) pe_int)))
      (pss_cons (ps_set (i := 3) sc__law_pot.nd rfl (.inl rfl) (pe_op op_mulW (pe_op op_mod (pe_callTy cr_int1 rfl T.b_int (by decide +kernel) (pa_cons (pe_callB cr_abs rfl T.b_abs (by decide +kernel) (pa_cons (pv 2) pa_nil)) pa_nil)) (pe_op op_powW (pe_op op_powW pe_int pe_int) pe_int)) (pe_callTy cr_int1 rfl T.b_int (by decide +kernel) (pa_cons (pe_cmpR op_ge (pe_callB cr_abs rfl T.b_abs (by decide +kernel) (pa_cons (pv 2) pa_nil)) (pe_op op_powW pe_int pe_int) (nomark _)) pa_nil))))
      (pss_cons (ps_set (i := 4) sc__law_pot.nd rfl (.inl rfl) (pe_op op_mod (pe_callTy cr_int1 rfl T.b_int (by decide +kernel) (pa_cons (pv 2) pa_nil)) pe_int))
      (pss_one (ps_ret (pe_lst (pa_cons (pv 3) (pa_cons (pe_op op_mod (pe_callTy cr_int1 rfl T.b_int (by decide +kernel) (pa_cons (pe_op op_add (pe_op op_add (pe_op op_mulW (pv 4) pe_int) (pe_op op_mulW (pe_op op_mulW pe_int (pv 1)) (pv 1))) pe_int) pa_nil)) pe_int) (pa_cons pe_int pa_nil))))))))), ?_⟩
    refine My.i_go (σ' := [some _, some _, none, none, none]) rfl ?_
    repeat walk_at "h"
    refine i_lenL hx ?_
    repeat walk_at "h"
    refine i_join (fun v => ∃ z : Int, v = .int z) (fun h1 Q hQ => ?_) (fun h1 Q hQ => ?_) ?_
    · have h1 := of_decide_eq_true h1
      rw [List.length_map] at h1
      repeat walk_at "h"
      obtain ⟨j, rfl⟩ : ∃ j : Nat, i = (j : Int) := ⟨i.toNat, by omega⟩
      have hj : j < ns.length := by omega
      exact i_ixsL hx (atI_nat (j := j) (v := .int ns[j]) (by rw [List.getElem?_map, List.getElem?_eq_getElem hj, Option.map_some])) (hQ _ ⟨_, rfl⟩)
    · repeat walk_at "h"
      exact hQ _ ⟨_, rfl⟩
    · rintro v ⟨z, rfl⟩
      repeat walk_at "h"
      refine i_modQ (by decide +kernel) fun m hm1 hm2 => ?_
      repeat walk_at "h"
      refine i_I (mul01 (pot_lt hm1 hm2)) ?_
      repeat walk_at "h"
      rename_i q H1 S hq e1
      exact k q H1 S hq ⟨_, _, _, e1, mul01_nn hm1, Int.emod_nonneg _ (by decide), Int.lt_trans (Int.emod_lt_of_pos _ (by decide)) (by decide), Int.le_refl _, Int.le_refl _⟩
theorem sc__law_take : FnScope ["_law_pot_here", "_law_upto", "_law_digit", "_law_prime", "_law_mixed"] ["_law_pot_here", "_law_upto"] (defScope s__law_take) := ⟨rfl, rfl, rfl, by decide +kernel, rfl, by decide +kernel, by decide +kernel⟩
theorem ok__law_take (T : Tx K mg) : FnAt P w K mg base CX0 1 (He.ga K "_law_take") ["_law_pot_here", "_law_upto"] spTake := by
  refine T.f__law_take.f.ok sc__law_take ?_ (fun cdv A outer s H vs Q E hr h => ?_)
  · walk_at "len"
  · obtain ⟨p, u, n, rfl, ⟨a, b, c, hp, ha, hb, hb2, hc, hcn⟩, hn, hu, hu2, k⟩ := h
    refine ⟨_, (pss_cons (ps_if (pt_cmpR op_gt (pe_ix ix_seq (pv 0) pe_int (fun _ _ => rfl)) pe_int (nomark _)) (pss_cons (ps_set (i := 2) sc__law_take.nd rfl (.inl rfl) (pe_op op_mod (pe_callTy cr_int1 rfl T.b_int (by decide +kernel) (pa_cons (pe_ix ix_seq (pv 0) pe_int (fun _ _ => rfl)) pa_nil)) (pv 1)))
      (pss_cons (ps_asg (pe_op op_fdivW (pe_ix ix_seq (pv 0) pe_int (fun _ _ => rfl)) (pv 1)) (pg_sub (pv 0) pe_int set_list))
      (pss_one (ps_ret (pv 2))))) pss_nil)
      (pss_cons (ps_asg (pe_op op_add (pe_ix ix_seq (pv 0) pe_int (fun _ _ => rfl)) pe_int) (pg_sub (pv 0) pe_int set_list))
      (pss_cons (ps_set (i := 3) sc__law_take.nd rfl (.inl rfl) (pe_ix ix_seq (pe_lst (pa_cons pe_int (pa_cons pe_int (pa_cons pe_int (pa_cons pe_int (pa_cons pe_int pa_nil)))))) (pe_op op_mod (pe_callTy cr_int1 rfl T.b_int (by decide +kernel) (pa_cons (pe_ix ix_seq (pv 0) pe_int (fun _ _ => rfl)) pa_nil)) pe_int) (fun _ _ => rfl)))
      (pss_cons (ps_set (i := 4) sc__law_take.nd rfl (.inl rfl) (pe_op op_mod (pe_callTy cr_int1 rfl T.b_int (by decide +kernel) (pa_cons (pe_op op_powW (pe_callTy cr_int1 rfl T.b_int (by decide +kernel) (pa_cons (pe_op op_add (pe_op op_add (pe_ix ix_seq (pv 0) pe_int (fun _ _ => rfl)) (pe_op op_mulW (pe_op op_mulW pe_int (pe_ix ix_seq (pv 0) pe_int (fun _ _ => rfl))) (pe_ix ix_seq (pv 0) pe_int (fun _ _ => rfl)))) pe_int) pa_nil)) pe_int) pa_nil)) (pv 3)))
      (pss_cons (ps_set (i := 4) sc__law_take.nd rfl (.inl rfl) (pe_op op_mod (pe_callTy cr_int1 rfl T.b_int (by decide +kernel) (pa_cons (pe_op op_mulW (pv 4) (pe_op op_add (pe_op op_mod (pe_callTy cr_int1 rfl T.b_int (by decide +kernel) (pa_cons (pv 4) pa_nil)) pe_int) (pe_op op_mulW pe_int (pe_ix ix_seq (pv 0) pe_int (fun _ _ => rfl))))) pa_nil)) pe_int))
      (pss_one (ps_ret (pe_op op_mod (pe_callTy cr_int1 rfl T.b_int (by decide +kernel) (pa_cons (pe_op op_fdivW (pv 4) pe_int) pa_nil)) (pv 1))))))))), ?_⟩
    refine My.i_go (σ' := [some _, some _, none, none, none]) rfl ?_
    repeat walk_at "h"
    refine ite2 (fun h1 => ?_) (fun h1 => ?_)
    · repeat walk_at "h"
      exact k _ _ (Int.emod_nonneg _ (by omega)) (Int.emod_lt_of_pos _ hu) ⟨_, _, _, by walk_at "look", Int.ediv_nonneg ha (by omega), hb, hb2, hc, by omega⟩ (by walk_at "but")
    · repeat walk_at "h"
      obtain ⟨v, hv, hm⟩ := atI_mem (xs := [V.int 2147483647, V.int 2147483629, V.int 2147483587, V.int 2147483579, V.int 2147483563]) (i := (c + 1) % 5) (Int.emod_nonneg _ (by omega)) (by simp only [List.length]; omega)
      obtain ⟨q, rfl, hq1, hq2⟩ : ∃ q : Int, v = .int q ∧ 2147483562 < q ∧ q < 2147483648 := by
        simp only [List.mem_cons, List.not_mem_nil, or_false] at hm
        rcases hm with rfl | rfl | rfl | rfl | rfl <;> exact ⟨_, rfl, by decide, by decide⟩
      refine i_ixsL (SqL.of (by walk_at "look")) hv ?_
      repeat walk_at "h"
      refine i_I (pow3Q hb hb2 (by decide) (by decide) (by omega) (by omega) (by decide) (by decide)) ?_
      iterate 3 walk_at "h"
      refine i_modQ (by omega) fun m hm1 hm2 => ?_
      repeat walk_at "h"
      exact k _ _ (Int.emod_nonneg _ (by omega)) (Int.emod_lt_of_pos _ hu) ⟨_, _, _, by walk_at "look", ha, hb, hb2, by omega, by omega⟩ (by walk_at "but")
theorem sc__law_cells : FnScope ["_law_script", "_law_most"] ["_law_script", "_law_most"] (defScope s__law_cells) := ⟨rfl, rfl, rfl, by decide +kernel, rfl, by decide +kernel, by decide +kernel⟩
theorem ok__law_cells (T : Tx K mg) : FnAt P w K mg base CX0 1 (He.ga K "_law_cells") ["_law_script", "_law_most"] (spCells K) := by
  refine T.f__law_cells.f.ok sc__law_cells ?_ (fun cdv A outer s H vs Q E hr h => ?_)
  · walk_at "len"
  · obtain ⟨a, ns, m, rfl, hx, hl, hm, k⟩ := h
    refine ⟨_, (pss_one (ps_ret (pe_listRg rfl rfl T.b_list (prg_1 rfl T.b_range (pe_callB (cr_max2 rfl) rfl T.b_max (by decide +kernel) (pa_cons pe_int (pa_cons (pe_callB (cr_min2 rfl) rfl T.b_min (by decide +kernel) (pa_cons (pv 1) (pa_cons (pe_callB cr_len rfl T.b_len (by decide +kernel) (pa_cons (pv 0) pa_nil)) pa_nil))) pa_nil))))))), ?_⟩
    refine My.i_go (σ' := [some _, some _]) rfl ?_
    repeat walk_at "h"
    refine i_lenL hx ?_
    repeat walk_at "h"
    rw [List.length_map]
    generalize e : (if (if (ns.length : Int) < m then (ns.length : Int) else m) > 1 then (if (ns.length : Int) < m then (ns.length : Int) else m) else 1) = j
    have hj : 1 ≤ j ∧ j ≤ 100 := by split at e <;> split at e <;> omega
    obtain ⟨i, rfl⟩ : ∃ i : Nat, j = (i : Int) := ⟨j.toNat, by omega⟩
    exact i_newR (.of_le (by omega) (by omega) (by omega) (by omega)) fun q H1 S hq e1 => k q H1 i (by omega) S hq e1
theorem sc__law_common : FnScope ["_law_one", "_law_other", "_law_left", "_law_right_here"] ["_law_one", "_law_other"] (defScope s__law_common) := ⟨rfl, rfl, rfl, by decide +kernel, rfl, by decide +kernel, by decide +kernel⟩
theorem ok__law_common (T : Tx K mg) : FnAt P w K mg base CX0 1 (He.ga K "_law_common") ["_law_one", "_law_other"] spCommon := by
  refine T.f__law_common.f.ok sc__law_common ?_ (fun cdv A outer s H vs Q E hr h => ?_)
  · walk_at "len"
  · obtain ⟨a, b, rfl, k⟩ := h
    refine ⟨_, (pss_cons (ps_par (i := 2) (j := 3) rfl sc__law_common.nd rfl rfl (by decide) rfl rfl (pa_cons (pe_callB cr_abs rfl T.b_abs (by decide +kernel) (pa_cons (pv 0) pa_nil)) (pa_cons (pe_callB cr_abs rfl T.b_abs (by decide +kernel) (pa_cons (pv 1) pa_nil)) pa_nil)) rfl)
      (pss_cons (ps_while PassesOwn.never (pt_cmpR op_gt (pv 3) pe_int (nomark _)) (pss_one (ps_par (i := 2) (j := 3) rfl sc__law_common.nd rfl rfl (by decide) rfl rfl (pa_cons (pv 3) (pa_cons (pe_op op_mod (pe_callTy cr_int1 rfl T.b_int (by decide +kernel) (pa_cons (pv 2) pa_nil)) (pe_callTy cr_int1 rfl T.b_int (by decide +kernel) (pa_cons (pv 3) pa_nil))) pa_nil)) rfl)))
      (pss_one (ps_ret (pv 2))))), ?_⟩
    refine My.i_go (σ' := [some _, some _, none, none]) rfl ?_
    repeat walk_at "h"
    have ea : (if a < 0 then -a else a) = (a.natAbs : Int) := by split <;> omega
    have eb : (if b < 0 then -b else b) = (b.natAbs : Int) := by split <;> omega
    rw [ea, eb]
    refine while_by (fun σ H' => H' = H ∧ ∃ l r : Nat, σ = [some (.int a), some (.int b), some (.int (l : Int)), some (.int (r : Int))] ∧ Nat.gcd l r = Nat.gcd a.natAbs b.natAbs) (fun σ _ => match σ[3]? with | some (some (V.int r)) => r.toNat | _ => 0)
      ⟨rfl, a.natAbs, b.natAbs, rfl, rfl⟩ ?_ (fun σ H Q Q' hQ ⟨v, e1, i, j, e2, e3, c, e4, q⟩ => ⟨v, e1, i, j, e2, e3, c, e4, hQ _ _ q⟩)
    rintro σ H' ⟨rfl, l, r, rfl, hg⟩
    repeat walk_at "h"
    refine ite2 (fun h1 => ?_) (fun h1 => ?_)
    · have h1 := of_decide_eq_true h1
      repeat walk_at "h"
      have e : ((l : Int) % (r : Int)) = ((l % r : Nat) : Int) := by omega
      refine ⟨⟨rfl, r, l % r, by rw [e]; rfl, ?_⟩, ?_⟩
      · rw [← hg, Nat.gcd_comm l r, Nat.gcd_rec r l, Nat.gcd_comm (l % r) r]
      · show ((l : Int) % (r : Int)).toNat < ((r : Nat) : Int).toNat
        have := Nat.mod_lt l (show r > 0 by omega)
        omega
    · have h1 : ¬ (0 : Int) < (r : Int) := fun z => h1 (decide_eq_true z)
      have : r = 0 := by omega
      subst this
      rw [Nat.gcd_zero_right] at hg
      subst hg
      repeat walk_at "h"
      exact k
theorem sc__law_is_less : FnScope ["_law_one", "_law_other"] ["_law_one", "_law_other"] (defScope s__law_is_less) := ⟨rfl, rfl, rfl, by decide +kernel, rfl, by decide +kernel, by decide +kernel⟩
theorem ok__law_is_less (T : Tx K mg) : FnAt P w K mg base CX0 1 (He.ga K "_law_is_less") ["_law_one", "_law_other"] (spLess K) := by
  refine T.f__law_is_less.f.ok sc__law_is_less ?_ (fun cdv A outer s H vs Q E hr h => ?_)
  · walk_at "len"
  · obtain ⟨a, b, p, q, j, rfl, hp, hq, zp, zq, hj, k⟩ := h
    have z1 := zp.1; have z2 := zp.den; have z3 := zq.1; have z4 := zq.den
    refine ⟨_, (pss_one (ps_ret (pe_cmpR op_lt (pe_op op_mulW (pe_ix ix_seq (pv 0) pe_int (fun _ _ => rfl)) (pe_ix ix_seq (pv 1) pe_int (fun _ _ => rfl))) (pe_op op_mulW (pe_ix ix_seq (pv 1) pe_int (fun _ _ => rfl)) (pe_ix ix_seq (pv 0) pe_int (fun _ _ => rfl))) (nomark _)))), ?_⟩
    refine My.i_go (σ' := [some _, some _]) rfl ?_
    repeat walk_at "h"
    rw [decide_eq_decide.mpr (Rat.lt_iff p q).symm]
    exact k
theorem sc__law_ratio_text : FnScope ["_law_ratio"] ["_law_ratio"] (defScope s__law_ratio_text) := ⟨rfl, rfl, rfl, by decide +kernel, rfl, by decide +kernel, by decide +kernel⟩
theorem ok__law_ratio_text (T : Tx K mg) : FnAt P w K mg base CX0 1 (He.ga K "_law_ratio_text") ["_law_ratio"] (spRatioText K) := by
  refine T.f__law_ratio_text.f.ok sc__law_ratio_text ?_ (fun cdv A outer s H vs Q E hr h => ?_)
  · walk_at "len"
  · obtain ⟨a, q, rfl, ha, ok, k⟩ := h
    obtain ⟨n, en⟩ : ∃ n : Nat, q.num = (n : Int) := ⟨q.num.toNat, by have := ok.num0; omega⟩
    have n1 : n < 2 ^ 400 := Nat.lt_of_lt_of_le (show n < 2 ^ 14 by have := ok.n; omega) (Nat.pow_le_pow_right (by decide) (by decide))
    have n2 : q.den < 2 ^ 400 := Nat.lt_of_lt_of_le (show q.den < 2 ^ 14 by have := ok.d; omega) (Nat.pow_le_pow_right (by decide) (by decide))
    have t1 : q.den = 1 → rT q = nS n := fun h => by unfold rT; rw [if_pos h, en]; rfl
    have t2 : q.den ≠ 1 → rT q = nS n ++ ("/" : Str) ++ nS q.den := fun h => by unfold rT; rw [if_neg h, en]; rfl
    unfold rat at ha
    rw [en] at ha
    refine ⟨_, (pss_one (ps_ret (pe_ifExp (pt_cmpR op_eq (pe_ix ix_seq (pv 0) pe_int (fun _ _ => rfl)) pe_int (nomark _)) (pe_callTy cr_strI rfl T.b_str (by decide +kernel) (pa_cons (pe_ix ix_seq (pv 0) pe_int (fun _ _ => rfl)) pa_nil)) (pe_op op_add_str (pe_op op_add_str (pe_callTy cr_strI rfl T.b_str (by decide +kernel) (pa_cons (pe_ix ix_seq (pv 0) pe_int (fun _ _ => rfl)) pa_nil)) pe_str) (pe_callTy cr_strI rfl T.b_str (by decide +kernel) (pa_cons (pe_ix ix_seq (pv 0) pe_int (fun _ _ => rfl)) pa_nil)))))), ?_⟩
    refine My.i_go (σ' := [some _]) rfl ?_
    repeat walk_at "h"
    refine i_eqI ?_
    refine ⟨_, rfl, ?_⟩
    refine ite2 (fun c => ?_) (fun c => ?_)
    · have c : q.den = 1 := by have := of_decide_eq_true c; omega
      repeat walk_at "h"
      refine i_strI n1 ?_
      repeat walk_at "h"
      rw [← t1 c]
      exact k
    · have c : q.den ≠ 1 := fun z => c (by rw [z]; rfl)
      have l1 := nS_len (n := n) (k := 5) (by decide) (by have := ok.n; omega)
      have l2 := nS_len (n := q.den) (k := 5) (by decide) (by have := ok.d; omega)
      repeat walk_at "h"
      refine i_strI n1 ?_
      repeat walk_at "h"
      refine ⟨_, _, rfl, rfl, Nat.le_trans (Nat.add_le_add l1 (show ("/" : Str).length ≤ 1 from Nat.le_refl _)) (by decide), ?_⟩
      repeat walk_at "h"
      refine i_strI n2 ?_
      repeat walk_at "h"
      refine ⟨_, _, rfl, rfl, by rw [Str.length_append]; exact Nat.le_trans (Nat.add_le_add (Nat.add_le_add l1 (show ("/" : Str).length ≤ 1 from Nat.le_refl _)) l2) (by decide), ?_⟩
      rw [← t2 c]
      exact k
theorem sc_Bench_text : FnScope ["self"] ["self"] (defScope s_Bench_text) := ⟨rfl, rfl, rfl, by decide +kernel, rfl, by decide +kernel, by decide +kernel⟩
theorem ok_Bench_text (T : Tx K mg) : FnAt P w K mg base CX0 1 (gtOf K (He.ma K (He.ga K "Bench") "text")) ["self"] (spBText K (He.ga K "Bench")) := by
  refine T.p_Bench_text.f.ok sc_Bench_text ?_ (fun cdv A outer s H vs Q E hr h => ?_)
  · walk_at "len"
  · obtain ⟨b, L, rfl, ⟨dx, rd, ld, st, kvs, lks, eb, er, el, hk, hl, hs, hn⟩, k⟩ := h
    have hc := T.c_Bench; have a1 := T.a_Bench__text
    refine ⟨_, (pss_one (ps_ret (pe_fld (pv 0) rfl))), ?_⟩
    refine My.i_go (σ' := [some _]) rfl ?_
    repeat walk_at "h"
    refine i_fldv eb hc a1 lk_text ?_
    repeat walk_at "h"
    exact k
theorem sc_Bench_meters : FnScope ["self", "meter"] ["self"] (defScope s_Bench_meters) := ⟨rfl, rfl, rfl, by decide +kernel, rfl, by decide +kernel, by decide +kernel⟩
theorem ok_Bench_meters (T : Tx K mg) : FnAt P w K mg base CX0 1 (gtOf K (He.ma K (He.ga K "Bench") "meters")) ["self"] (spBNamesF K (He.ga K "Bench") fun L => L.meters.map (·.1)) := by
  refine T.p_Bench_meters.f.ok sc_Bench_meters ?_ (fun cdv A outer s H vs Q E hr h => ?_)
  · walk_at "len"
  · obtain ⟨b, L, rfl, ⟨dx, rd, ld, st, kvs, lks, eb, er, el, hk, hl, hs, hn⟩, hz, k⟩ := h
    have hc := T.c_Bench; have a1 := T.a_Bench__ranges
    refine ⟨_, (pss_one (ps_ret (pe_callTy cr_tupF rfl T.b_tuple (by decide +kernel) (pa_cons (pe_lock (pe_lc (own := [("meter", 1)]) rfl sc_Bench_meters.nd (pi_keys (pe_fld (pv 0) rfl)) (blkOk_by (own := [("meter", 1)]) (N := ["self", "meter"]) (sc := defScope s_Bench_meters) (by decide +kernel)) (fun _ _ _ _ _ => (pg_name (i := 1) sc_Bench_meters.nd rfl (.inl rfl))) (fun _ _ _ _ _ => pts_nil) (fun _ _ _ _ _ => (pv 1)))) pa_nil)))), ?_⟩
    refine My.i_go (σ' := [some _, none]) rfl ?_
    repeat walk_at "h"
    refine i_lockK er fun od Hl Bl el9 => ?_
    repeat walk_at "h"
    refine i_fldv (Bl _ _ (ne_of eb er (fun z => by cases z)) eb) hc a1 lk_ranges ?_
    refine i_keysv el9 ?_
    refine lcq_y (n := kvs.length) (fun A i H' acc => Hl A = none ∧ Same Hl H' ∧ H' A = some (.lst acc) ∧ acc = ((L.meters.take i).map (·.1)).map V.str) (fun A H' hS hA e => ⟨hA, hS, e, rfl⟩) (fun A i H' acc hi ⟨_, S, _⟩ => ⟨S _ _ el9, hi⟩) (fun A H' acc ⟨_, S, _⟩ => ⟨S _ _ el9, Nat.le_refl _⟩) ?_ ?_
    · rintro A i y H' H1' acc hi ⟨hA, S, eA, ea⟩ ⟨rfl, kk, v, hkv, rfl⟩
      obtain ⟨m, hm, hk1, hv1⟩ := paired_get hk hkv
      obtain rfl : kk = Sum.inr m.1 := hk1
      repeat walk_at "h"
      refine ⟨rfl, ?_⟩
      repeat walk_at "h"
      have hil := (List.getElem?_eq_some_iff.mp hm).1
      have hz' : L.meters.length ≤ 100 := by rwa [List.length_map] at hz
      refine turnC_end eA (by rw [ea, List.length_map, List.length_map, List.length_take]; omega) fun H5 B5 e5 => ⟨hA, Same.ext S hA B5, e5, ?_⟩
      rw [ea, List.take_add_one, hm]
      simp [kV]
    · rintro A H' acc ⟨hA, S, eA, ea⟩
      rw [hk.len, List.take_length] at ea
      refine ⟨S _ _ el9, ?_⟩
      have S6 := unlock_same er Bl S
      have nA : A ≠ rd := fun z => by rw [z, el9] at hA; cases hA
      have eA6 : (upd H' rd (.dK kvs)) A = some (.lst acc) := by rw [upd_ne nA]; exact eA
      generalize upd H' rd (.dK kvs) = H6 at S6 eA6 ⊢
      repeat walk_at "h"
      refine i_tupF (.of eA6) fun p H7 S7 hp e7 => k p H7 (S6.trans S7) (S6.free hp) (by rw [ea] at e7; exact e7)
theorem sc_Bench_loads : FnScope ["self", "load"] ["self"] (defScope s_Bench_loads) := ⟨rfl, rfl, rfl, by decide +kernel, rfl, by decide +kernel, by decide +kernel⟩
theorem ok_Bench_loads (T : Tx K mg) : FnAt P w K mg base CX0 1 (gtOf K (He.ma K (He.ga K "Bench") "loads")) ["self"] (spBNames K (He.ga K "Bench") fun L => L.loads.map (·.1)) := by
  refine T.p_Bench_loads.f.ok sc_Bench_loads ?_ (fun cdv A outer s H vs Q E hr h => ?_)
  · walk_at "len"
  · obtain ⟨b, L, rfl, ⟨dx, rd, ld, st, kvs, lks, eb, er, el, hk, hl, hs, hn⟩, hz, k⟩ := h
    have hc := T.c_Bench; have a1 := T.a_Bench__loads
    refine ⟨_, (pss_one (ps_ret (pe_callTy cr_tupN rfl T.b_tuple (by decide +kernel) (pa_cons (pe_lock (pe_lc (own := [("load", 1)]) rfl sc_Bench_loads.nd (pi_keys (pe_fld (pv 0) rfl)) (blkOk_by (own := [("load", 1)]) (N := ["self", "load"]) (sc := defScope s_Bench_loads) (by decide +kernel)) (fun _ _ _ _ _ => (pg_name (i := 1) sc_Bench_loads.nd rfl (.inl rfl))) (fun _ _ _ _ _ => pts_nil) (fun _ _ _ _ _ => (pv 1)))) pa_nil)))), ?_⟩
    refine My.i_go (σ' := [some _, none]) rfl ?_
    repeat walk_at "h"
    refine i_lockK el fun od Hl Bl el9 => ?_
    repeat walk_at "h"
    refine i_fldv (Bl _ _ (ne_of eb el (fun z => by cases z)) eb) hc a1 lk_loads ?_
    refine i_keysv el9 ?_
    refine lcq_y (n := lks.length) (fun A i H' acc => Hl A = none ∧ Same Hl H' ∧ H' A = some (.lst acc) ∧ acc = ((L.loads.take i).map (·.1)).map V.str) (fun A H' hS hA e => ⟨hA, hS, e, rfl⟩) (fun A i H' acc hi ⟨_, S, _⟩ => ⟨S _ _ el9, hi⟩) (fun A H' acc ⟨_, S, _⟩ => ⟨S _ _ el9, Nat.le_refl _⟩) ?_ ?_
    · rintro A i y H' H1' acc hi ⟨hA, S, eA, ea⟩ ⟨rfl, kk, v, hkv, rfl⟩
      obtain ⟨m, hm, hk1, hv1⟩ := paired_get hl hkv
      obtain rfl : kk = Sum.inr m.1 := hk1
      repeat walk_at "h"
      refine ⟨rfl, ?_⟩
      repeat walk_at "h"
      have hil := (List.getElem?_eq_some_iff.mp hm).1
      have hz' : L.loads.length ≤ 100 := by rwa [List.length_map] at hz
      refine turnC_end eA (by rw [ea, List.length_map, List.length_map, List.length_take]; omega) fun H5 B5 e5 => ⟨hA, Same.ext S hA B5, e5, ?_⟩
      rw [ea, List.take_add_one, hm]
      simp [kV]
    · rintro A H' acc ⟨hA, S, eA, ea⟩
      rw [hl.len, List.take_length] at ea
      refine ⟨S _ _ el9, ?_⟩
      have S6 := unlock_same el Bl S
      have nA : A ≠ ld := fun z => by rw [z, el9] at hA; cases hA
      have eA6 : (upd H' ld (.dK lks)) A = some (.lst acc) := by rw [upd_ne nA]; exact eA
      generalize upd H' ld (.dK lks) = H6 at S6 eA6 ⊢
      repeat walk_at "h"
      refine i_tupN (.of eA6) fun p H7 S7 hp e7 => k p H7 (S6.trans S7) (S6.free hp) (by rw [e7, ea])
theorem sc_Bench_spread : FnScope ["self"] ["self"] (defScope s_Bench_spread) := ⟨rfl, rfl, rfl, by decide +kernel, rfl, by decide +kernel, by decide +kernel⟩
theorem ok_Bench_spread (T : Tx K mg) : FnAt P w K mg base CX0 1 (gtOf K (He.ma K (He.ga K "Bench") "spread")) ["self"] (spBSpread K (He.ga K "Bench")) := by
  refine T.p_Bench_spread.f.ok sc_Bench_spread ?_ (fun cdv A outer s H vs Q E hr h => ?_)
  · walk_at "len"
  · obtain ⟨b, L, rfl, ⟨dx, rd, ld, st, kvs, lks, eb, er, el, hk, hl, hs, hn⟩, k⟩ := h
    have hc := T.c_Bench; have a1 := T.a_Bench__spread
    refine ⟨_, (pss_one (ps_ret (pe_fld (pv 0) rfl))), ?_⟩
    refine My.i_go (σ' := [some _]) rfl ?_
    repeat walk_at "h"
    refine i_fldv eb hc a1 lk_spread ?_
    repeat walk_at "h"
    exact k
theorem sc_Bench_settings : FnScope ["self"] ["self"] (defScope s_Bench_settings) := ⟨rfl, rfl, rfl, by decide +kernel, rfl, by decide +kernel, by decide +kernel⟩
theorem ok_Bench_settings (T : Tx K mg) : FnAt P w K mg base CX0 1 (gtOf K (He.ma K (He.ga K "Bench") "settings")) ["self"] (spBSettings K (He.ga K "Bench")) := by
  refine T.p_Bench_settings.f.ok sc_Bench_settings ?_ (fun cdv A outer s H vs Q E hr h => ?_)
  · walk_at "len"
  · obtain ⟨b, L, rfl, ⟨dx, rd, ld, st, kvs, lks, eb, er, el, hk, hl, hs, hn⟩, k⟩ := h
    have hc := T.c_Bench; have a1 := T.a_Bench__settings
    obtain ⟨p, xs, rfl, _⟩ := dp_tup hs
    refine ⟨_, (pss_one (ps_ret (pe_fld (pv 0) rfl))), ?_⟩
    refine My.i_go (σ' := [some _]) rfl ?_
    repeat walk_at "h"
    refine i_fldv eb hc a1 lk_settings ?_
    repeat walk_at "h"
    exact k p hs
theorem sc_Bench_first : FnScope ["self", "meter"] ["self"] (defScope s_Bench_first) := ⟨rfl, rfl, rfl, by decide +kernel, rfl, by decide +kernel, by decide +kernel⟩
theorem ok_Bench_first (T : Tx K mg) : FnAt P w K mg base CX0 1 (gtOf K (He.ma K (He.ga K "Bench") "first")) ["self"] (spBFirst K (He.ga K "Bench")) := by
  refine T.p_Bench_first.f.ok sc_Bench_first ?_ (fun cdv A outer s H vs Q E hr h => ?_)
  · walk_at "len"
  · obtain ⟨b, L, rfl, ⟨dx, rd, ld, st, kvs, lks, eb, er, el, hk, hl, hs, hn⟩, okL, k⟩ := h
    have hc := T.c_Bench; have a1 := T.a_Bench__ranges
    have hz : L.meters.length ≤ 3 := okL.m3
    refine ⟨_, (pss_one (ps_ret (pe_tup (pa_cons (pe_callTy cr_tupN rfl T.b_tuple (by decide +kernel) (pa_cons (pe_lock (pe_lc (own := [("meter", 1)]) rfl sc_Bench_first.nd (pi_keys (pe_fld (pv 0) rfl)) (blkOk_by (own := [("meter", 1)]) (N := ["self", "meter"]) (sc := defScope s_Bench_first) (by decide +kernel)) (fun _ _ _ _ _ => (pg_name (i := 1) sc_Bench_first.nd rfl (.inl rfl))) (fun _ _ _ _ _ => pts_nil) (fun _ _ _ _ _ => (pe_ix (ix_seqK (K := K) rfl) (pe_ix (ix_seqK (K := K) rfl) (pe_dget (hu_of hr) (pe_fldK (K := K) rfl (pv 0) rfl) (pv 1) (fun _ _ => rfl)) pe_int (fun _ _ => rfl)) pe_int (fun _ _ => rfl))))) pa_nil)) (pa_cons (pe_tup pa_nil) pa_nil))))), ?_⟩
    refine My.i_go (σ' := [some _, none]) rfl ?_
    repeat walk_at "h"
    refine i_lockK er fun od Hl Bl el9 => ?_
    repeat walk_at "h"
    refine i_fldv (Bl _ _ (ne_of eb er (fun z => by cases z)) eb) hc a1 lk_ranges ?_
    refine i_keysv el9 ?_
    refine lcq_y (n := kvs.length) (fun A i H' acc => Hl A = none ∧ Same Hl H' ∧ H' A = some (.lst acc) ∧ acc = ((L.meters.take i).map fun m => (m.2.map (·.n)).headD "").map V.str) (fun A H' S hA e => ⟨hA, S, e, rfl⟩) (fun A i H' acc hi ⟨_, S, _⟩ => ⟨S _ _ el9, hi⟩) (fun A H' acc ⟨_, S, _⟩ => ⟨S _ _ el9, Nat.le_refl _⟩) ?_ ?_
    · rintro A i y H' H1' acc hi ⟨hA, S, eA, ea⟩ ⟨rfl, kk, v, hkv, rfl⟩
      obtain ⟨m, hm, hk1, hv1⟩ := paired_get hk hkv
      obtain rfl : kk = Sum.inr m.1 := hk1
      repeat walk_at "h"
      refine ⟨rfl, ?_⟩
      repeat walk_at "h"
      refine i_fldv (S _ _ (Bl _ _ (ne_of eb er (fun z => by cases z)) eb)) hc a1 lk_ranges ?_
      repeat walk_at "h"
      obtain ⟨v', gv, rv⟩ := hk.get okL.md (List.mem_of_getElem? hm)
      have rv9 := Dp.same (dp_butN er trivial Bl (noL_rows _ _) rv) S
      obtain ⟨a7, ys, rfl, h7, hys⟩ := dp_tup rv9
      refine i_dgF (S _ _ el9) gv ?_
      repeat walk_at "h"
      obtain ⟨hne, _, _⟩ := okL.rows m (List.mem_of_getElem? hm)
      obtain ⟨r0, er0⟩ : ∃ r0, m.2[0]? = some r0 := ⟨_, List.getElem?_eq_getElem (List.length_pos_iff.mpr hne)⟩
      obtain ⟨y0, hy0, dy0⟩ := dpAll_at hys (i := 0) (d := rowD (lowR L.spread r0)) (by rw [List.getElem?_map, er0]; rfl)
      obtain ⟨ar, g, u, d', t2, rfl, hcr, _, _, _, _⟩ := row_dp dy0
      refine i_ixsT h7 (atI_nat (j := 0) hy0) ?_
      repeat walk_at "h"
      have hil := (List.getElem?_eq_some_iff.mp hm).1
      refine turnC_end eA (by rw [ea, List.length_map, List.length_map, List.length_take]; omega) fun H5 B5 e5 => ⟨hA, Same.ext S hA B5, e5, ?_⟩
      rw [ea, List.take_add_one, hm, List.map_append, List.map_append]
      have hh : (m.2.map fun x : My.Row => x.n).headD ("" : Str) = r0.n := by
        cases h : m.2 with
        | nil => exact absurd h hne
        | cons x xs => rw [h] at er0; simp at er0; rw [er0]; rfl
      show _ = _ ++ [V.str ((m.2.map fun x : My.Row => x.n).headD ("" : Str))]
      rw [hh]
      rfl
    · rintro A H' acc ⟨hA, S, eA, ea⟩
      rw [hk.len, List.take_length] at ea
      refine ⟨S _ _ el9, ?_⟩
      have S6 := unlock_same er Bl S
      have nA : A ≠ rd := fun z => by rw [z, el9] at hA; cases hA
      have eA6 : (upd H' rd (.dK kvs)) A = some (.lst acc) := by rw [upd_ne nA]; exact eA
      generalize upd H' rd (.dK kvs) = H6 at S6 eA6 ⊢
      repeat walk_at "h"
      refine i_tupN (.of eA6) fun p H7 S7 hp e7 => ?_
      repeat walk_at "h"
      rename_i pe He Se pe0 ee pt Ht St pt0 et
      have e8 := St _ _ (Se _ _ e7)
      rw [ea] at e8
      exact k pt Ht (S6.trans (S7.trans (Se.trans St))) (.tup (.of et) (.cons (dp_names (ns := firstOf L) (.of e8)) (.cons (dp_names (ns := []) (.of (St _ _ ee))) .nil)))
theorem sc_Bench_load : FnScope ["self", "name"] ["self", "name"] (defScope s_Bench_load) := ⟨rfl, rfl, rfl, by decide +kernel, rfl, by decide +kernel, by decide +kernel⟩
theorem ok_Bench_load (T : Tx K mg) : FnAt P w K mg base CX0 1 (He.ma K (He.ga K "Bench") "load") ["self", "name"] (spBLoad K (He.ga K "Bench")) := by
  refine T.d_Bench_load.f.ok sc_Bench_load ?_ (fun cdv A outer s H vs Q E hr h => ?_)
  · walk_at "len"
  · obtain ⟨b, L, n, q, rfl, hB, nd, hm, k⟩ := h
    obtain ⟨dx, rd, ld, st, kvs, lks, eb, er, el, hk, hl, hs, hn⟩ := id hB
    have hc := T.c_Bench; have a1 := T.a_Bench__loads
    obtain ⟨v, gv, rv⟩ := hl.get nd hm
    obtain ⟨p, rfl, hp⟩ := rat_dp rv
    refine ⟨_, (pss_cons (ps_if (PW.pt (pw_or (pt_not (pt_val (pe_callB call_isi rfl T.b_isinstance (by decide +kernel) (pa_cons (pv 1) (pa_cons (pe_bltn (v := .ty "str") rfl T.b_str (by decide +kernel) rfl) pa_nil))))) (pw_or1 (pt_cmp (pc_dnotin (hu_of hr) (pv 1) (pe_fld (pv 0) rfl)) rfl)))) (pss_one ps_never) pss_nil)
      (pss_one (ps_ret (pe_dget (hu_of hr) (pe_fld (pv 0) rfl) (pv 1) (fun _ _ => rfl))))), ?_⟩
    refine My.i_go (σ' := [some _, some _]) rfl ?_
    repeat walk_at "h"
    refine i_fldv eb hc a1 lk_loads ?_
    refine i_diS el ?_
    rw [gv, Option.isSome_some]
    repeat walk_at "h"
    refine i_fldv eb hc a1 lk_loads ?_
    repeat walk_at "h"
    refine i_dgS el gv ?_
    exact k p hp
theorem sc_Bench___len__ : FnScope ["self"] ["self"] (defScope s_Bench___len__) := ⟨rfl, rfl, rfl, by decide +kernel, rfl, by decide +kernel, by decide +kernel⟩
theorem ok_Bench___len__ (T : Tx K mg) : FnAt P w K mg base CX0 1 (He.ma K (He.ga K "Bench") "__len__") ["self"] (spBLen K (He.ga K "Bench")) := by
  refine T.d_Bench___len__.f.ok sc_Bench___len__ ?_ (fun cdv A outer s H vs Q E hr h => ?_)
  · walk_at "len"
  · obtain ⟨b, L, rfl, ⟨dx, rd, ld, st, kvs, lks, eb, er, el, hk, hl, hs, hn⟩, k⟩ := h
    have hc := T.c_Bench; have a1 := T.a_Bench__ranges
    refine ⟨_, (pss_one (ps_ret (pe_callB cr_lenDN rfl T.b_len (by decide +kernel) (pa_cons (pe_fld (pv 0) rfl) pa_nil)))), ?_⟩
    refine My.i_go (σ' := [some _]) rfl ?_
    repeat walk_at "h"
    refine i_fldv eb hc a1 lk_ranges ?_
    repeat walk_at "h"
    refine i_lenD er ?_
    rw [hk.len]
    exact k
theorem sc_Bench___contains__ : FnScope ["self", "x"] ["self", "x"] (defScope s_Bench___contains__) := ⟨rfl, rfl, rfl, by decide +kernel, rfl, by decide +kernel, by decide +kernel⟩
theorem ok_Bench___contains__ (T : Tx K mg) : FnAt P w K mg base CX0 1 (He.ma K (He.ga K "Bench") "__contains__") ["self", "x"] (spBIn K (He.ga K "Bench")) := by
  refine T.d_Bench___contains__.f.ok sc_Bench___contains__ ?_ (fun cdv A outer s H vs Q E hr h => ?_)
  · walk_at "len"
  · obtain ⟨b, L, x, rfl, ⟨dx, rd, ld, st, kvs, lks, eb, er, el, hk, hl, hs, hn⟩, k⟩ := h
    have hc := T.c_Bench; have a1 := T.a_Bench__ranges
    refine ⟨_, (pss_one (ps_ret (pe_and (pe_callB call_isi rfl T.b_isinstance (by decide +kernel) (pa_cons (pv 1) (pa_cons (pe_bltn (v := .ty "str") rfl T.b_str (by decide +kernel) rfl) pa_nil))) (pe_one (pe_cmp (pc_din (hu_of hr) (pv 1) (pe_fld (pv 0) rfl)) rfl))))), ?_⟩
    refine My.i_go (σ' := [some _, some _]) rfl ?_
    repeat walk_at "h"
    rcases k with ⟨n, rfl, k⟩ | ⟨n, ty, e, k⟩
    · repeat walk_at "h"
      refine i_fldv eb hc a1 lk_ranges ?_
      refine i_diS er ?_
      rw [hk.isSome]
      exact k
    · refine i_isiX ty e ?_
      repeat walk_at "h"
      exact k
theorem sc_Source_volts : FnScope ["self"] ["self"] (defScope s_Source_volts) := ⟨rfl, rfl, rfl, by decide +kernel, rfl, by decide +kernel, by decide +kernel⟩
theorem ok_Source_volts (T : Tx K mg) : FnAt P w K mg base CX0 1 (gtOf K (He.ma K (He.ga K "Source") "volts")) ["self"] (spVolts (He.ga K "Source")) := by
  refine T.p_Source_volts.f.ok sc_Source_volts ?_ (fun cdv A outer s H vs Q E hr h => ?_)
  · walk_at "len"
  · obtain ⟨x, dx, a, b, rfl, hx, k⟩ := h
    have hc := T.c_Source; have n1 := T.a_Source__volts
    refine ⟨_, (pss_one (ps_ret (pe_fld (pv 0) rfl))), ?_⟩
    refine My.i_go (σ' := [some _]) rfl ?_
    repeat walk_at "h"
    exact k
theorem sc_Source_ohms : FnScope ["self"] ["self"] (defScope s_Source_ohms) := ⟨rfl, rfl, rfl, by decide +kernel, rfl, by decide +kernel, by decide +kernel⟩
theorem ok_Source_ohms (T : Tx K mg) : FnAt P w K mg base CX0 1 (gtOf K (He.ma K (He.ga K "Source") "ohms")) ["self"] (spOhms (He.ga K "Source")) := by
  refine T.p_Source_ohms.f.ok sc_Source_ohms ?_ (fun cdv A outer s H vs Q E hr h => ?_)
  · walk_at "len"
  · obtain ⟨x, dx, a, b, rfl, hx, k⟩ := h
    have hc := T.c_Source; have n2 := T.a_Source__ohms
    refine ⟨_, (pss_one (ps_ret (pe_fld (pv 0) rfl))), ?_⟩
    refine My.i_go (σ' := [some _]) rfl ?_
    repeat walk_at "h"
    exact k
theorem sc_is_ratio : FnScope ["value", "above", "below"] ["value"] (defScope s_is_ratio) := ⟨rfl, rfl, rfl, by decide +kernel, rfl, by decide +kernel, by decide +kernel⟩
theorem ok_is_ratio (T : Tx K mg) : FnAt P w K mg base CX0 2 (He.ga K "is_ratio") ["value"] (spIsRatio K) := by
  refine T.f_is_ratio.f.ok sc_is_ratio ?_ (fun cdv A outer s H vs Q E hr h => ?_)
  · walk_at "len"
  · obtain ⟨a, p, rfl, hp, h0, k⟩ := h
    have n0 := nn_num h0
    have d0 := den_pos p
    refine ⟨_, (pss_cons (ps_if (PW.pt (pw_or (pt_not (pt_val (pe_callB call_isi rfl T.b_isinstance (by decide +kernel) (pa_cons (pv 0) (pa_cons (pe_bltn (v := .ty "tuple") rfl T.b_tuple (by decide +kernel) rfl) pa_nil))))) (pw_or1 (pt_cmpR op_ne (pe_callB cr_len rfl T.b_len (by decide +kernel) (pa_cons (pv 0) pa_nil)) pe_int (nomark _))))) (pss_one (ps_ret pe_bl)) pss_nil)
      (pss_cons (ps_asg (pv 0) (pg_tup rfl (pgs_cons (pg_name (i := 1) sc_is_ratio.nd rfl (.inl rfl)) (pgs_cons (pg_name (i := 2) sc_is_ratio.nd rfl (.inl rfl)) pgs_nil))))
      (pss_cons (ps_if (PW.pt (pw_or (pt_not (pt_val (pe_fn T.f_is_integer (ok_is_integer T) (hr.mono (by decide)) (pa_cons (pv 1) pa_nil)))) (pw_or1 (pt_not (pt_val (pe_fn T.f_is_integer (ok_is_integer T) (hr.mono (by decide)) (pa_cons (pv 2) pa_nil))))))) (pss_one (ps_ret pe_bl)) pss_nil)
      (pss_one (ps_ret (pe_and (pe_cmpR op_ge (pv 1) pe_int (nomark _)) (pe_and (pe_cmpR op_ge (pv 2) pe_int (nomark _)) (pe_one (pe_cmpR op_eq (pe_callBfun cr_gcd rfl T.b_gcd (pa_cons (pv 1) (pa_cons (pv 2) pa_nil))) pe_int (nomark _)))))))))), ?_⟩
    refine My.i_go (σ' := [some _, none, none]) rfl ?_
    repeat walk_at "h"
    refine i_isiT (b := true) hp (by decide +kernel) ?_
    repeat walk_at "h"
    refine i_neF rfl ?_
    repeat walk_at "h"
    refine ⟨_, rfl, ?_⟩
    repeat walk_at "h"
    refine ⟨_, rfl, ?_⟩
    repeat walk_at "h"
    refine ite_d n0 ?_
    repeat walk_at "h"
    refine ite_d (by omega) ?_
    repeat walk_at "h"
    refine i_eqT ?_ k
    have := p.reduced
    rw [Int.natAbs_natCast, this]
    rfl
theorem sc_plus : FnScope ["one", "other"] ["one", "other"] (defScope s_plus) := ⟨rfl, rfl, rfl, by decide +kernel, rfl, by decide +kernel, by decide +kernel⟩
theorem ok_plus (T : Tx K mg) : FnAt P w K mg base CX0 2 (He.ga K "plus") ["one", "other"] (spPlus K) := by
  refine T.f_plus.f.ok sc_plus ?_ (fun cdv A outer s H vs Q E hr h => ?_)
  · walk_at "len"
  · obtain ⟨a, b, p, q, j, rfl, hp, hq, zp, zq, hj, -, k⟩ := h
    have z1 := zp.1; have z2 := zp.den; have z3 := zq.1; have z4 := zq.den
    refine ⟨_, (pss_one (ps_ret (pe_fn T.f_ratio (ok_ratio T) (hr.mono (by decide)) (pa_cons (pe_op op_add (pe_op op_mulW (pe_ix ix_seq (pv 0) pe_int (fun _ _ => rfl)) (pe_ix ix_seq (pv 1) pe_int (fun _ _ => rfl))) (pe_op op_mulW (pe_ix ix_seq (pv 1) pe_int (fun _ _ => rfl)) (pe_ix ix_seq (pv 0) pe_int (fun _ _ => rfl)))) (pa_cons (pe_op op_mulW (pe_ix ix_seq (pv 0) pe_int (fun _ _ => rfl)) (pe_ix ix_seq (pv 1) pe_int (fun _ _ => rfl))) pa_nil))))), ?_⟩
    refine My.i_go (σ' := [some _, some _]) rfl ?_
    repeat walk_at "h"
    refine ⟨_, _, rfl, dd_pos p q, pow_le_4000 (abs_add_lt (abs_mul_lt z1 z4) (abs_mul_lt z3 z2)) (by omega), pow_le_4000 (abs_mul_lt z2 z4) (by omega), fun r H' S hr e => ?_⟩
    rw [add_div] at e
    exact k r H' S hr e
theorem sc_times : FnScope ["one", "other"] ["one", "other"] (defScope s_times) := ⟨rfl, rfl, rfl, by decide +kernel, rfl, by decide +kernel, by decide +kernel⟩
theorem ok_times (T : Tx K mg) : FnAt P w K mg base CX0 2 (He.ga K "times") ["one", "other"] (spTimes K) := by
  refine T.f_times.f.ok sc_times ?_ (fun cdv A outer s H vs Q E hr h => ?_)
  · walk_at "len"
  · obtain ⟨a, b, p, q, j, rfl, hp, hq, zp, zq, hj, -, k⟩ := h
    have z1 := zp.1; have z2 := zp.den; have z3 := zq.1; have z4 := zq.den
    refine ⟨_, (pss_one (ps_ret (pe_fn T.f_ratio (ok_ratio T) (hr.mono (by decide)) (pa_cons (pe_op op_mulW (pe_ix ix_seq (pv 0) pe_int (fun _ _ => rfl)) (pe_ix ix_seq (pv 1) pe_int (fun _ _ => rfl))) (pa_cons (pe_op op_mulW (pe_ix ix_seq (pv 0) pe_int (fun _ _ => rfl)) (pe_ix ix_seq (pv 1) pe_int (fun _ _ => rfl))) pa_nil))))), ?_⟩
    refine My.i_go (σ' := [some _, some _]) rfl ?_
    repeat walk_at "h"
    refine ⟨_, _, rfl, dd_pos p q, pow_le_4000 (abs_mul_lt z1 z3) (by omega), pow_le_4000 (abs_mul_lt z2 z4) (by omega), fun r H' S hr e => ?_⟩
    rw [mul_div] at e
    exact k r H' S hr e
theorem sc_over : FnScope ["one", "other"] ["one", "other"] (defScope s_over) := ⟨rfl, rfl, rfl, by decide +kernel, rfl, by decide +kernel, by decide +kernel⟩
theorem ok_over (T : Tx K mg) : FnAt P w K mg base CX0 2 (He.ga K "over") ["one", "other"] (spOver K) := by
  refine T.f_over.f.ok sc_over ?_ (fun cdv A outer s H vs Q E hr h => ?_)
  · walk_at "len"
  · obtain ⟨a, b, p, q, j, rfl, hp, hq, zp, zq, hj, h0, k⟩ := h
    have z1 := zp.1; have z2 := zp.den; have z3 := zq.1; have z4 := zq.den
    refine ⟨_, (pss_one (ps_ret (pe_fn T.f_ratio (ok_ratio T) (hr.mono (by decide)) (pa_cons (pe_op op_mulW (pe_ix ix_seq (pv 0) pe_int (fun _ _ => rfl)) (pe_ix ix_seq (pv 1) pe_int (fun _ _ => rfl))) (pa_cons (pe_op op_mulW (pe_ix ix_seq (pv 0) pe_int (fun _ _ => rfl)) (pe_ix ix_seq (pv 1) pe_int (fun _ _ => rfl))) pa_nil))))), ?_⟩
    refine My.i_go (σ' := [some _, some _]) rfl ?_
    repeat walk_at "h"
    refine ⟨_, _, rfl, dn_pos p h0, pow_le_4000 (abs_mul_lt z1 z4) (by omega), pow_le_4000 (abs_mul_lt z2 z3) (by omega), fun r H' S hr e => ?_⟩
    rw [div_div h0] at e
    exact k r H' S hr e
theorem sc_ascending : FnScope ["rows", "half"] ["rows"] (defScope s_ascending) := ⟨rfl, rfl, rfl, by decide +kernel, rfl, by decide +kernel, by decide +kernel⟩
theorem ok_ascending_F (T : Tx K mg) : FnAt P w K mg base CX0 1 (He.ga K "ascending") ["rows"] spNone := ⟨fun _ _ _ _ h => h.elim, fun _ _ _ _ _ _ _ _ _ _ _ _ _ h => h.elim⟩
theorem ok_ascending_0 (T : Tx K mg) : FnAt P w K mg base CX0 2 (He.ga K "ascending") ["rows"] (spAsc K 0) := by
  refine T.f_ascending.f.ok sc_ascending ?_ (fun cdv A outer s H vs Q E hr h => ?_)
  · walk_at "len"
  · obtain ⟨a, xs, ds, rfl, hl, hx, nd, hF, h1, h2, k⟩ := h
    have hxl := dpAll_len hx
    refine ⟨_, (pss_cons (ps_if (pt_cmpR op_lt (pe_callB cr_len rfl T.b_len (by decide +kernel) (pa_cons (pv 0) pa_nil)) pe_int (nomark _)) (pss_one (ps_ret (pe_callTy cr_tupN rfl T.b_tuple (by decide +kernel) (pa_cons (pv 0) pa_nil)))) pss_nil)
      (pss_cons (ps_set (i := 1) sc_ascending.nd rfl (.inl rfl) (pe_op op_fdivW (pe_callB cr_len rfl T.b_len (by decide +kernel) (pa_cons (pv 0) pa_nil)) pe_int))
      (pss_one (ps_ret (pe_fn T.f_merged (ok_merged T) (hr.mono (by decide)) (pa_cons (pe_fn T.f_ascending (ok_ascending_F T) (hr.mono (by decide)) (pa_cons (pe_slice sl_list (pv 0) po_none (po_some (pv 1))) pa_nil)) (pa_cons (pe_fn T.f_ascending (ok_ascending_F T) (hr.mono (by decide)) (pa_cons (pe_slice sl_list (pv 0) (po_some (pv 1)) po_none) pa_nil)) pa_nil))))))), ?_⟩
    refine My.i_go (σ' := [some _, none]) rfl ?_
    repeat walk_at "h"
    refine i_lenL hl ?_
    repeat walk_at "h"
    refine ite_d (by omega) ?_
    repeat walk_at "h"
    refine i_tupN hl fun p H1 S1 hp e1 => k p H1 S1 ?_
    rw [srt_few (by omega)]
    exact .tup (.of e1) (hx.same S1)
theorem sc_is_in_sequence : FnScope ["told", "ahead"] ["told", "ahead"] (defScope s_is_in_sequence) := ⟨rfl, rfl, rfl, by decide +kernel, rfl, by decide +kernel, by decide +kernel⟩
theorem ok_is_in_sequence (T : Tx K mg) : FnAt P w K mg base CX0 2 (He.ga K "is_in_sequence") ["told", "ahead"] (spInSeq K) := by
  refine T.f_is_in_sequence.f.ok sc_is_in_sequence ?_ (fun cdv A outer s H vs Q E hr h => ?_)
  · walk_at "len"
  · obtain ⟨d, a, kvs, r, t, q0, rfl, hd, hk, ha, ht, eD, hle, hq0, hU, k⟩ := h
    obtain ⟨vd, gd, rd⟩ := hk.get (tells_nd r) (tells_D eD)
    obtain ⟨x, rfl, rx⟩ := rat_dp rd
    refine ⟨_, (pss_cons (ps_if (pt_not (pt_val (pe_fn T.f_at_least (ok_at_least T) (hr.mono (by decide)) (pa_cons (pv 1) (pa_cons (pe_dget (hu_of hr) (pv 0) pe_str (fun _ _ => rfl)) pa_nil))))) (pss_one (ps_ret pe_bl)) pss_nil)
      (pss_one (ps_ret (pe_or (pe_cmp (pc_dnotin (hu_of hr) pe_str (pv 0)) rfl) (pe_one (pe_not (pe_fn T.f_at_least (ok_at_least T) (hr.mono (by decide)) (pa_cons (pv 1) (pa_cons (pe_dget (hu_of hr) (pv 0) pe_str (fun _ _ => rfl)) pa_nil))))))))), ?_⟩
    refine My.i_go (σ' := [some _, some _]) rfl ?_
    repeat walk_at "h"
    refine i_dgS hd gd ?_
    repeat walk_at "h"
    refine ⟨_, _, _, _, 20, rfl, ha, rx, ht.sz, hq0.sz, by omega, ?_⟩
    rw [show ((fun p q : Rat => decide (q ≤ p)) t q0) = true from decide_eq_true hle]
    repeat walk_at "h"
    refine i_diS hd ?_
    cases eU : r.U with
    | none =>
      rw [hk.no (tells_noU eU)]
      repeat walk_at "h"
      exact k
    | some u =>
      obtain ⟨hu, hlt⟩ := hU u eU
      obtain ⟨vu, gu, ru⟩ := hk.get (tells_nd r) (tells_U eU)
      obtain ⟨y, rfl, ry⟩ := rat_dp ru
      rw [gu, Option.isSome_some]
      repeat walk_at "h"
      refine i_dgS hd gu ?_
      repeat walk_at "h"
      refine ⟨_, _, _, _, 20, rfl, ha, ry, ht.sz, hu.sz, by omega, ?_⟩
      rw [show ((fun p q : Rat => decide (q ≤ p)) t u) = false from decide_eq_false (Rat.not_le.mpr hlt)]
      repeat walk_at "h"
      exact k
theorem sc__law_of : FnScope ["_law_pot_here", "_law_some_here"] ["_law_pot_here", "_law_some_here"] (defScope s__law_of) := ⟨rfl, rfl, rfl, by decide +kernel, rfl, by decide +kernel, by decide +kernel⟩
theorem ok__law_of (T : Tx K mg) : FnAt P w K mg base CX0 2 (He.ga K "_law_of") ["_law_pot_here", "_law_some_here"] (spOf K) := by
  refine T.f__law_of.f.ok sc__law_of ?_ (fun cdv A outer s H vs Q E hr h => ?_)
  · walk_at "len"
  · obtain ⟨p, q, xs, n, rfl, hP, hn, hqp, hx, hx0, hx1, k⟩ := h
    refine ⟨_, (pss_one (ps_ret (pe_ix ix_seq (pv 1) (pe_fn T.f__law_take (ok__law_take T) (hr.mono (by decide)) (pa_cons (pv 0) (pa_cons (pe_callB cr_len rfl T.b_len (by decide +kernel) (pa_cons (pv 1) pa_nil)) pa_nil))) (fun _ _ => rfl)))), ?_⟩
    refine My.i_go (σ' := [some _, some _]) rfl ?_
    repeat walk_at "h"
    refine i_lenL hx ?_
    repeat walk_at "h"
    refine ⟨p, xs.length, n, rfl, hP, hn, by omega, by omega, fun r H' h0 h1 hP' hB => ?_⟩
    obtain ⟨v, hv, hm⟩ := atI_mem h0 h1
    exact i_ixsL (hB.seq hqp hx) hv (k v H' hm hP' hB)
theorem sc__law_some : FnScope ["_law_pot_here", "_law_pool", "_law_many", "_law_left", "_law_found", "_law_turn"] ["_law_pot_here", "_law_pool", "_law_many"] (defScope s__law_some) := ⟨rfl, rfl, rfl, by decide +kernel, rfl, by decide +kernel, by decide +kernel⟩
theorem ok__law_some (T : Tx K mg) : FnAt P w K mg base CX0 2 (He.ga K "_law_some") ["_law_pot_here", "_law_pool", "_law_many"] (spSome K) := by
  refine T.f__law_some.f.ok sc__law_some ?_ (fun cdv A outer s H vs Q E hr h => ?_)
  · walk_at "len"
  · obtain ⟨p, q, ws, m, n, rfl, hP, hn, hq, hnd, hm, hw, k⟩ := h
    refine ⟨_, (pss_cons (ps_par (i := 3) (j := 4) rfl sc__law_some.nd rfl rfl (by decide) rfl rfl (pa_cons (pe_callTy cr_listOf rfl T.b_list (by decide +kernel) (pa_cons (pv 1) pa_nil)) (pa_cons (pe_lst pa_nil) pa_nil)) rfl)
      (pss_cons (ps_for PassesOwn.never rfl (pi_range1 rfl T.b_range (pa_cons (pv 2) pa_nil)) (pg_name (i := 5) sc__law_some.nd rfl (.inl rfl)) (pss_one (ps_expr (pe_bm PySem.F.plainAttrs_list PySem.F.slot_list_append PySem.F.type_list_append mt_append (pv 4) (pa_cons (pe_bm PySem.F.plainAttrs_list PySem.F.slot_list_pop PySem.F.type_list_pop mt_popAt (pv 3) (pa_cons (pe_fn T.f__law_take (ok__law_take T) (hr.mono (by decide)) (pa_cons (pv 0) (pa_cons (pe_callB cr_len rfl T.b_len (by decide +kernel) (pa_cons (pv 3) pa_nil)) pa_nil))) pa_nil)) pa_nil)))))
      (pss_one (ps_ret (pv 4))))), ?_⟩
    refine My.i_go (σ' := [some _, some _, some _, none, none, none]) rfl ?_
    repeat walk_at "h"
    refine i_listOf hq fun l3 H1 S1 hl3 e1 => ?_
    repeat walk_at "h"
    rename_i f4 H2 S2 hf4 e2
    have S02 := S1.trans S2
    have nlf : l3 ≠ f4 := ne_of_none e1 hf4
    have hf0 := S1.free hf4
    have npl : p ≠ l3 := fun z => by obtain ⟨l, e⟩ := hP.some; rw [z, hl3] at e; cases e
    have npf : p ≠ f4 := fun z => by obtain ⟨l, e⟩ := hP.some; rw [z, hf0] at e; cases e
    refine i_rngv (by omega) (by omega) ?_
    rw [Int.toNat_natCast]
    refine forq_n (n := m) (fun i σ' H' => ∃ (w5 : Option V) (A B : List Str), σ' = [some (.ref p), some (.ref q), some (.int m), some (.ref l3), some (.ref f4), w5] ∧ Pot H' p (n + i) ∧ H' l3 = some (.lst (A.map V.str)) ∧ H' f4 = some (.lst (B.map V.str)) ∧ B.length = i ∧ A.length = ws.length - i ∧ A.Nodup ∧ B.Nodup ∧ (∀ x ∈ B, x ∉ A ∧ x ∈ ws) ∧ (∀ x ∈ A, x ∈ ws) ∧ But p H H') ⟨none, ws, [], rfl, (hP.same S02).mono (by omega), S2 _ _ e1, e2, rfl, by omega, hnd, .nil, (fun x hx => by cases hx), (fun x hx => hx), S02.but⟩ (fun _ _ _ hi _ => hi) (fun _ _ _ => Nat.le_refl _) ?_ ?_
    · rintro i x σ' H' H1' hi ⟨w5, A, B, rfl, hP', ea, eb, lb, la, na, nb, hb, hsub, B0⟩ ⟨rfl, rfl⟩
      repeat walk_at "h"
      refine ⟨p, _, n + i, rfl, hP', by omega, by rw [List.length_map]; omega, by rw [List.length_map]; omega, fun r H3 r0 r1 P3 B3 => ?_⟩
      repeat walk_at "h"
      rw [List.length_map] at r1
      obtain ⟨j, rfl⟩ : ∃ j : Nat, r = (j : Int) := ⟨r.toNat, by omega⟩
      have hj : j < A.length := by omega
      refine i_popAt (j := j) (y := .str A[j]) (B3 _ _ npl.symm ea) (by rw [List.length_map]; omega) (by rw [List.getElem?_map, List.getElem?_eq_getElem hj]; rfl) fun H4 B4 e4 => ?_
      have eb4 := B4 _ _ nlf.symm (B3 _ _ npf.symm eb)
      repeat walk_at "h"
      refine i_app eb4 (by rw [List.length_map, lb]; exact Nat.lt_of_lt_of_le (show i < 100 by omega) (by decide)) fun H5 B5 e5 => ?_
      refine ⟨_, A.eraseIdx j, B ++ [A[j]], rfl, ?_, ?_, ?_, ?_, ?_, ?_, ?_, ?_, ?_, ?_⟩
      · exact ((P3.butne B4 npl).butne B5 npf).mono (by omega)
      · rw [B5 _ _ nlf e4, map_erase]
      · rw [e5, List.map_append]; rfl
      · rw [List.length_append, lb]; rfl
      · rw [List.length_eraseIdx_of_lt hj]; omega
      · exact na.sublist (List.eraseIdx_sublist A j)
      · rw [List.nodup_append]
        refine ⟨nb, nodup_one _, fun x hx y hy => ?_⟩
        rw [List.mem_singleton.mp hy]
        exact fun z => (hb x hx).1 (z ▸ List.getElem_mem hj)
      · intro x hx
        rcases List.mem_append.mp hx with hx | hx
        · exact ⟨fun z => (hb x hx).1 (List.mem_of_mem_eraseIdx z), (hb x hx).2⟩
        · rw [List.mem_singleton.mp hx]
          refine ⟨fun z => ?_, hsub _ (List.getElem_mem hj)⟩
          exact not_mem_erase na hj z
      · intro x hx
        exact hsub x (List.mem_of_mem_eraseIdx hx)
      · exact But.ext (But.ext (B0.trans B3) hl3 B4) hf0 B5
    · rintro σ' H' ⟨w5, A, B, rfl, hP', ea, eb, lb, la, na, nb, hb, hsub, B0⟩
      repeat walk_at "h"
      exact k f4 H' B B0 hP' hf0 eb lb nb fun x hx => (hb x hx).2
theorem sc__law_pair : FnScope ["_law_above", "_law_under", "_law_by"] ["_law_above", "_law_under"] (defScope s__law_pair) := ⟨rfl, rfl, rfl, by decide +kernel, rfl, by decide +kernel, by decide +kernel⟩
theorem ok__law_pair (T : Tx K mg) : FnAt P w K mg base CX0 2 (He.ga K "_law_pair") ["_law_above", "_law_under"] spPair := by
  refine T.f__law_pair.f.ok sc__law_pair ?_ (fun cdv A outer s H vs Q E hr h => ?_)
  · walk_at "len"
  · obtain ⟨a, b, rfl, hb, sa, sb, k⟩ := h
    refine ⟨_, (pss_cons (ps_set (i := 2) sc__law_pair.nd rfl (.inl rfl) (pe_fn T.f__law_common (ok__law_common T) (hr.mono (by decide)) (pa_cons (pv 0) (pa_cons (pv 1) pa_nil))))
      (pss_one (ps_ret (pe_tup (pa_cons (pe_op op_fdivW (pv 0) (pv 2)) (pa_cons (pe_op op_fdivW (pv 1) (pv 2)) pa_nil)))))), ?_⟩
    refine My.i_go (σ' := [some _, some _, none]) rfl ?_
    repeat walk_at "h"
    refine ⟨a, b, rfl, ?_⟩
    obtain ⟨d1, d2⟩ := gcd_div (a := a) hb sb
    repeat walk_at "h"
    rename_i p H1 S hp e
    rw [rat_div hb] at e
    exact k p H1 S hp e
theorem sc__law_row_line : FnScope ["_law_row", "_law_name", "_law_load", "_law_size", "_law_down", "_law_up", "_law_line"] ["_law_row"] (defScope s__law_row_line) := ⟨rfl, rfl, rfl, by decide +kernel, rfl, by decide +kernel, by decide +kernel⟩
theorem ok__law_row_line (T : Tx K mg) : FnAt P w K mg base CX0 2 (He.ga K "_law_row_line") ["_law_row"] (spRowLine K) := by
  refine T.f__law_row_line.f.ok sc__law_row_line ?_ (fun cdv A outer s H vs Q E hr h => ?_)
  · walk_at "len"
  · obtain ⟨a, r, ah, rfl, hd, ok, k⟩ := h
    obtain ⟨a', g, z, d, u, e, hr5, hg, hz, hdd, hu⟩ := row_dp hd
    cases e
    obtain ⟨g, rfl, hgs⟩ := rat_dp hg
    obtain ⟨z, rfl, hzs⟩ := rat_dp hz
    have fin : ∀ n : Nat, n ≤ 1000 → n ≤ sizeLine := fun n h => Nat.le_trans h (by decide)
    have c1 : ("  range " : Str).length = 8 := rfl
    have c2 : (" load " : Str).length = 6 := rfl
    have c3 : (" unit " : Str).length = 6 := rfl
    have c4 : (" down " : Str).length = 6 := rfl
    have c5 : (" up " : Str).length = 4 := rfl
    have c0 : ("" : Str).length = 0 := rfl
    have b1 := ok.nm.hi
    have b2 := rT_len ok.g
    have b3 := rT_len ok.s
    have hH : (rowHead r).length ≤ 60 := by unfold rowHead; simp only [Str.length_append]; omega
    have dD : ∀ q, r.D = some q → RatOk q := fun q e => by
      by_cases h : ah = []
      · rw [ok.d.1 h] at e; cases e
      · obtain ⟨q2, e2, o2⟩ := ok.d.2 h
        rw [e] at e2; cases e2; exact o2
    have dU : ∀ q, r.U = some q → RatOk q := fun q e => (ok.u q e).1
    have hT : ∀ (w : Str) (o : Option Rat), w.length ≤ 6 → (∀ q, o = some q → RatOk q) → (optTx w o).length ≤ 20 := fun w o hw ho => by
      cases o with
      | none => exact Nat.zero_le _
      | some q => show (w ++ rT q).length ≤ 20; rw [Str.length_append]; have := rT_len (ho q rfl); omega
    have hTD := hT (" down " : Str) r.D (by omega) dD
    have hTU := hT (" up " : Str) r.U (by omega) dU
    have tell := rowLine_told r
    refine ⟨_, (pss_cons (ps_asg (pv 0) (pg_tup rfl (pgs_cons (pg_name (i := 1) sc__law_row_line.nd rfl (.inl rfl)) (pgs_cons (pg_name (i := 2) sc__law_row_line.nd rfl (.inl rfl)) (pgs_cons (pg_name (i := 3) sc__law_row_line.nd rfl (.inl rfl)) (pgs_cons (pg_name (i := 4) sc__law_row_line.nd rfl (.inl rfl)) (pgs_cons (pg_name (i := 5) sc__law_row_line.nd rfl (.inl rfl)) pgs_nil)))))))
      (pss_cons (ps_set (i := 6) sc__law_row_line.nd rfl (.inl rfl) (pe_op op_add_str (pe_op op_add_str (pe_op op_add_str (pe_op op_add_str (pe_op op_add_str pe_str (pv 1)) pe_str) (pe_fn T.f__law_ratio_text (ok__law_ratio_text T) (hr.mono (by decide)) (pa_cons (pv 2) pa_nil))) pe_str) (pe_fn T.f__law_ratio_text (ok__law_ratio_text T) (hr.mono (by decide)) (pa_cons (pv 3) pa_nil))))
      (pss_cons (ps_set (i := 6) sc__law_row_line.nd rfl (.inl rfl) (pe_op op_add_str (pv 6) (pe_ifExp (pt_cmpR op_notN (pv 4) pe_non (nomark _)) (pe_op op_add_str pe_str (pe_fn T.f__law_ratio_text (ok__law_ratio_text T) (hr.mono (by decide)) (pa_cons (pv 4) pa_nil))) pe_str)))
      (pss_one (ps_ret (pe_op op_add_str (pv 6) (pe_ifExp (pt_cmpR op_notN (pv 5) pe_non (nomark _)) (pe_op op_add_str pe_str (pe_fn T.f__law_ratio_text (ok__law_ratio_text T) (hr.mono (by decide)) (pa_cons (pv 5) pa_nil))) pe_str))))))), ?_⟩
    refine My.i_go (σ' := [some _, none, none, none, none, none, none]) rfl ?_
    repeat walk_at "h"
    refine ⟨_, _, rfl, rfl, fin _ (by omega), ?_⟩
    repeat walk_at "h"
    refine ⟨_, _, rfl, rfl, fin _ (by simp only [Str.length_append]; omega), ?_⟩
    repeat walk_at "h"
    refine ⟨g, r.G, rfl, hgs, ok.g, ?_⟩
    refine ⟨_, _, rfl, rfl, fin _ (by simp only [Str.length_append]; omega), ?_⟩
    repeat walk_at "h"
    refine ⟨_, _, rfl, rfl, fin _ (by simp only [Str.length_append]; omega), ?_⟩
    repeat walk_at "h"
    refine ⟨z, r.S, rfl, hzs, ok.s, ?_⟩
    refine ⟨_, _, rfl, rfl, fin _ (by simp only [Str.length_append]; omega), ?_⟩
    rw [show ("  range " : Str) ++ r.n ++ (" load " : Str) ++ rT r.G ++ (" unit " : Str) ++ rT r.S = rowHead r from rfl]
    repeat walk_at "h"
    refine i_joinHp (fun v H' => v = .str (optTx (" down " : Str) r.D) ∧ H = H') (fun c Q' hQ => ?_) (fun c Q' hQ => ?_) ?_
    · rcases opt_dp hdd with ⟨eD, e⟩ | ⟨q, b, eD, e, hb⟩
      · rw [e] at c; cases c
      · subst e
        repeat walk_at "h"
        refine ⟨b, q, rfl, hb, dD q eD, ?_⟩
        have := rT_len (dD q eD)
        refine ⟨_, _, rfl, rfl, fin _ (by omega), ?_⟩
        exact hQ _ _ ⟨by rw [eD]; rfl, rfl⟩
    · rcases opt_dp hdd with ⟨eD, e⟩ | ⟨q, b, eD, e, hb⟩
      · repeat walk_at "h"
        exact hQ _ _ ⟨by rw [eD]; rfl, rfl⟩
      · rw [e] at c; cases c
    rintro v H' ⟨rfl, rfl⟩
    refine ⟨_, _, rfl, rfl, fin _ (by omega), ?_⟩
    repeat walk_at "h"
    refine i_joinHp (fun v H' => v = .str (optTx (" up " : Str) r.U) ∧ H = H') (fun c Q' hQ => ?_) (fun c Q' hQ => ?_) ?_
    · rcases opt_dp hu with ⟨eD, e⟩ | ⟨q, b, eD, e, hb⟩
      · rw [e] at c; cases c
      · subst e
        repeat walk_at "h"
        refine ⟨b, q, rfl, hb, dU q eD, ?_⟩
        have := rT_len (dU q eD)
        refine ⟨_, _, rfl, rfl, fin _ (by omega), ?_⟩
        exact hQ _ _ ⟨by rw [eD]; rfl, rfl⟩
    · rcases opt_dp hu with ⟨eD, e⟩ | ⟨q, b, eD, e, hb⟩
      · repeat walk_at "h"
        exact hQ _ _ ⟨by rw [eD]; rfl, rfl⟩
      · rw [e] at c; cases c
    rintro v H' ⟨rfl, rfl⟩
    refine ⟨_, _, rfl, rfl, fin _ (by rw [Str.length_append]; omega), ?_⟩
    rw [← tell]
    exact k
theorem sc__law_moved : FnScope ["_law_lore_here", "_law_setting", "_law_at", "_law_by", "_law_names_here", "_law_row", "_law_place"] ["_law_lore_here", "_law_setting", "_law_at", "_law_by"] (defScope s__law_moved) := ⟨rfl, rfl, rfl, by decide +kernel, rfl, by decide +kernel, by decide +kernel⟩
theorem ok__law_moved (T : Tx K mg) : FnAt P w K mg base CX0 2 (He.ga K "_law_moved") ["_law_lore_here", "_law_setting", "_law_at", "_law_by"] (spMovedS K) := by
  refine T.f__law_moved.f.ok sc__law_moved ?_ (fun cdv A outer s H vs Q E hr h => ?_)
  · walk_at "len"
  · obtain ⟨d, F, L, x, s', i, j, m, r, up, rfl, hL, okL, hx, hs, hm, hr9, hs9, k0, k1⟩ := h
    obtain ⟨ms, ls, xs, ys, fd, fms, fls, ed, ems, hms, els, hls⟩ := hL
    obtain ⟨a, vs, rfl, ha, hvs⟩ := dp_tup hx
    obtain ⟨v1, vs, rfl, hv1, hvs⟩ := dpAll_cons hvs
    obtain ⟨v2, vs, rfl, hv2, hvs⟩ := dpAll_cons hvs
    cases dpAll_nil hvs
    obtain ⟨a1, rfl, ha1⟩ := names_dp hv1
    obtain ⟨x9, hx9, a9, b9, rws, rfl, fb, hat, hb, hrw⟩ := paired_at hms hm
    have hil : i < L.meters.length := (List.getElem?_eq_some_iff.mp hm).1
    have hmm := List.mem_of_getElem? hm
    obtain ⟨hne, hr4, hro⟩ := okL.rows m hmm
    have hjl : j < m.2.length := (List.getElem?_eq_some_iff.mp hr9).1
    have hrwl : rws.length = m.2.length := by have := dpAll_len hrw; rwa [List.length_map] at this
    refine ⟨_, (pss_cons (ps_setLc (i := 4) (own := [("_law_row", 5)]) rfl sc__law_moved.nd rfl rfl (sw_true rfl rfl rfl (by decide +kernel)) (pi_list (pe_ix ix_seq (pe_ix ix_seq (pe_dget (hu_of hr) (pv 0) pe_str (fun _ _ => rfl)) (pv 2) (fun _ _ => rfl)) pe_int (fun _ _ => rfl))) (blkOk_by (own := [("_law_row", 5)]) (N := ["_law_lore_here", "_law_setting", "_law_at", "_law_by", "_law_names_here", "_law_row", "_law_place"]) (sc := defScope s__law_moved) (by decide +kernel)) (fun _ _ _ _ _ => (pg_name (i := 5) sc__law_moved.nd rfl (.inl rfl))) (fun _ _ _ _ _ => pts_nil) (fun _ _ _ _ _ => (pe_ix (ix_seqK (K := K) rfl) (pv 5) pe_int (fun _ _ => rfl))))
      (pss_cons (ps_set (i := 6) sc__law_moved.nd rfl (.inl rfl) (pe_op op_add (pe_bm PySem.F.plainAttrs_list PySem.F.slot_list_index PySem.F.type_list_index mt_index (pv 4) (pa_cons (pe_ix ix_seq (pe_ix ix_seq (pv 1) pe_int (fun _ _ => rfl)) (pv 2) (fun _ _ => rfl)) pa_nil)) (pv 3)))
      (pss_cons (ps_if (pt_not (pt_chain op_le op_lt pe_int (pv 6) (pe_callB cr_len rfl T.b_len (by decide +kernel) (pa_cons (pv 4) pa_nil)))) (pss_one (ps_ret pe_non)) pss_nil)
      (pss_one (ps_ret (pe_tup (pa_cons (pe_op op_catA (pe_op op_catA (pe_slice sl_tupA (pe_ix ix_seq (pv 1) pe_int (fun _ _ => rfl)) po_none (po_some (pv 2))) (pe_tup (pa_cons (pe_ix ix_seq (pv 4) (pv 6) (fun _ _ => rfl)) pa_nil))) (pe_slice sl_tupA (pe_ix ix_seq (pv 1) pe_int (fun _ _ => rfl)) (po_some (pe_op op_add (pv 2) pe_int)) po_none)) (pa_cons (pe_ix ix_seq (pv 1) pe_int (fun _ _ => rfl)) pa_nil)))))))), ?_⟩
    refine My.i_go (σ' := [some _, some _, some _, some _, none, none, none]) rfl ?_
    repeat walk_at "h"
    refine i_ixsL (.of ems) (atI_nat (j := i) hx9) ?_
    repeat walk_at "h"
    refine lcq_list (xs := rws) (fun A q H' acc => H A = none ∧ Same H H' ∧ H' A = some (.lst acc) ∧ acc = ((m.2.take q).map (·.n)).map V.str) (fun A H' S hA e => ⟨hA, S, e, rfl⟩) (fun A q H' acc _ ⟨_, S, _⟩ => .of (S _ _ hb)) ?_ ?_
    · rintro A q y H2 acc hy hal _ ⟨hA, S2, eA, rfl⟩
      obtain ⟨dy, hdy, hyd⟩ := dpAll_get (hrw.same S2) hy
      rw [List.getElem?_map] at hdy
      obtain ⟨r2, hr2, rfl⟩ := Option.map_eq_some_iff.mp hdy
      obtain ⟨ar, g, u, d', t2, rfl, hc, _, _, _, _⟩ := row_dp hyd
      have hq4 : q < 4 := by have := (List.getElem?_eq_some_iff.mp hr2).1; omega
      repeat walk_at "h"
      refine ⟨rfl, ?_⟩
      repeat walk_at "h"
      refine turn_end eA hal (by omega) fun H5 B5 e5 => ?_
      refine ⟨hA, Same.ext S2 hA B5, e5, ?_⟩
      rw [List.take_add_one, hr2, List.map_append, List.map_append]
      rfl
    rintro A2 H2 acc hal2 _ ⟨hA2, S2, eA2, rfl⟩
    rw [hrwl, List.take_length] at eA2
    have ha2 := S2.seqT ha
    have ha12 := S2.seqT ha1
    repeat walk_at "h"
    refine i_ixsT ha12 (atI_nat (j := i) (v := .str r.n) (by rw [List.getElem?_map, hs9]; rfl)) ?_
    repeat walk_at "h"
    refine ⟨A2, _, _, j, .str r.n, rfl, rfl, .of eA2, rfl, My.flat_strs _, by rw [List.getElem?_map, List.getElem?_map, hr9]; rfl, eqV_str_self _, fun q z' hq e => ?_, ?_⟩
    · rw [List.getElem?_map, List.getElem?_map] at e
      obtain ⟨nq, hnq, rfl⟩ := Option.map_eq_some_iff.mp e
      obtain ⟨rq, hrq, rfl⟩ := Option.map_eq_some_iff.mp hnq
      refine eqV_str_ne fun e => ?_
      have h1 := List.getElem?_eq_some_iff.mp hrq
      have h2 := List.getElem?_eq_some_iff.mp hr9
      have hnd := (RowsOk.nd hro).1
      have := (List.getElem_inj (h₀ := by rw [List.length_map]; exact h1.1) (h₁ := by rw [List.length_map]; exact h2.1) hnd (i := q) (j := j)).mp (by rw [List.getElem_map, List.getElem_map, h1.2, h2.2]; exact e)
      omega
    have hplace : ∃ pl : Int, (j : Int) + (if up = true then 1 else -1) = pl ∧ ((¬ (0 ≤ pl ∧ pl < m.2.length) ∧ goes m.2.length j up = none) ∨ ∃ k : Nat, pl = k ∧ k < m.2.length ∧ goes m.2.length j up = some k) := by
      refine ⟨_, rfl, ?_⟩
      unfold goes
      cases up with
      | true =>
        by_cases h : j + 1 < m.2.length
        · exact .inr ⟨j + 1, by simp, h, by simp [h]⟩
        · exact .inl ⟨by simp; omega, by simp [h]⟩
      | false =>
        by_cases h : 0 < j
        · exact .inr ⟨j - 1, by simp; omega, by omega, by simp [h]⟩
        · exact .inl ⟨by simp; omega, by simp [h]⟩
    repeat walk_at "h"
    obtain ⟨pl, epl, hcase⟩ := hplace
    rw [epl]
    repeat walk_at "h"
    rcases hcase with ⟨hno, hg⟩ | ⟨k9, rfl, hk9, hg⟩
    · refine ite2 (fun c => ?_) (fun c => ?_)
      · have c := of_decide_eq_true c
        repeat walk_at "h"
        rw [List.length_map, List.length_map, decide_eq_false (show ¬ (pl < (m.2.length : Int)) from fun z => hno ⟨c, z⟩)]
        repeat walk_at "h"
        exact k0 hg H2 S2
      · repeat walk_at "h"
        exact k0 hg H2 S2
    refine ite_d (by omega) ?_
    repeat walk_at "h"
    rw [List.length_map, List.length_map, decide_eq_true (show ((k9 : Int) < (m.2.length : Int)) by omega)]
    repeat walk_at "h"
    obtain ⟨r', hr'⟩ : ∃ r', m.2[k9]? = some r' := ⟨_, List.getElem?_eq_getElem hk9⟩
    refine i_slA ha12 fun p3 H3 S3 q3 => ?_
    rw [cut_to (by rw [List.length_map, hs.len]; omega)] at q3
    have eA3 := S3 _ _ eA2
    repeat walk_at "h"
    refine i_ixsL (.of eA3) (atI_nat (j := k9) (v := .str r'.n) (by rw [List.getElem?_map, List.getElem?_map, hr']; rfl)) ?_
    repeat walk_at "h"
    rename_i t4 H4 S4 t40 et4
    have hl3 : s'.1.length ≤ 3 := by rw [hs.len]; exact okL.m3
    have hsz : ∀ z : Nat, z ≤ 10 → z ≤ sizeLine := fun z hz => Nat.le_trans hz (by decide)
    refine i_catA (S4.seqT q3) (.of et4) (hsz _ (by simp only [List.length_take, List.length_map, List.length_cons, List.length_nil]; omega)) fun p5 H5 S5 q5 => ?_
    have S25 := S3.trans (S4.trans S5)
    have ha5 := S25.seqT ha2
    have ha15 := S25.seqT ha12
    repeat walk_at "h"
    rw [show ((i : Int) + 1) = ((i + 1 : Nat) : Int) by omega]
    refine i_slA ha15 fun p6 H6 S6 q6 => ?_
    rw [cut_from (by rw [List.length_map, hs.len]; omega)] at q6
    refine i_catA (S6.seqT q5) q6 (hsz _ (by simp only [List.length_append, List.length_take, List.length_drop, List.length_map, List.length_cons, List.length_nil]; omega)) fun p7 H7 S7 q7 => ?_
    rw [show ((s'.1.map V.str).take i ++ [V.str r'.n]) ++ (s'.1.map V.str).drop (i + 1) = (s'.1.set i r'.n).map V.str by rw [List.set_eq_take_append_cons_drop, if_pos (by rw [hs.len]; exact hil), List.map_append, List.map_cons, List.map_take, List.map_drop, List.append_assoc]; rfl] at q7
    have ha7 := S7.seqT (S6.seqT ha5)
    repeat walk_at "h"
    rename_i t8 H8 S8 t80 et8
    have S28 := S25.trans (S6.trans (S7.trans S8))
    exact k1 k9 r' hg hr' _ H8 (S2.trans S28) (.tup (.of et8) (.cons (dp_names (S8.seqT q7)) (.cons (hv2.same (S2.trans S28)) .nil)))
theorem sc_Bench___getitem__ : FnScope ["self", "at"] ["self", "at"] (defScope s_Bench___getitem__) := ⟨rfl, rfl, rfl, by decide +kernel, rfl, by decide +kernel, by decide +kernel⟩
theorem ok_Bench___getitem__ (T : Tx K mg) : FnAt P w K mg base CX0 2 (He.ma K (He.ga K "Bench") "__getitem__") ["self", "at"] (spBItem K (He.ga K "Bench")) := by
  refine T.d_Bench___getitem__.f.ok sc_Bench___getitem__ ?_ (fun cdv A outer s H vs Q E hr h => ?_)
  · walk_at "len"
  · obtain ⟨b, L, n, rows, rfl, hB, nd, hm, k⟩ := h
    obtain ⟨dx, rd, ld, st, kvs, lks, eb, er, el, hk, hl, hs, hn⟩ := id hB
    have hc := T.c_Bench; have a1 := T.a_Bench__ranges
    obtain ⟨v, gv, rv⟩ := hk.get nd hm
    obtain ⟨p, xs, rfl, _⟩ := dp_tup rv
    refine ⟨_, (pss_cons (ps_if (pt_cmpR (op_ninOwn T.d_Bench___contains__ (ok_Bench___contains__ T) (hr.mono (by decide))) (pv 1) (pv 0) (by with_unfolding_all rfl)) (pss_one ps_never) pss_nil)
      (pss_one (ps_ret (pe_dget (hu_of hr) (pe_fld (pv 0) rfl) (pv 1) (fun _ _ => rfl))))), ?_⟩
    refine My.i_go (σ' := [some _, some _]) rfl ?_
    repeat walk_at "h"
    refine ⟨b, dx, _, rfl, eb, b, L, _, rfl, hB, .inl ⟨n, rfl, _, rfl, ?_⟩⟩
    rw [decide_eq_true (List.mem_map.mpr ⟨_, hm, rfl⟩)]
    repeat walk_at "h"
    refine i_fldv eb hc a1 lk_ranges ?_
    repeat walk_at "h"
    refine i_dgS er gv ?_
    exact k p rv
theorem sc_ratio_of : FnScope ["word", "above", "slash", "below", "pair"] ["word"] (defScope s_ratio_of) := ⟨rfl, rfl, rfl, by decide +kernel, rfl, by decide +kernel, by decide +kernel⟩
theorem ok_ratio_of (T : Tx K mg) : FnAt P w K mg base CX0 3 (He.ga K "ratio_of") ["word"] (spRatioOf) := by
  refine T.f_ratio_of.f.ok sc_ratio_of ?_ (fun cdv A outer s H vs Q E hr h => ?_)
  · walk_at "len"
  · obtain ⟨q, rfl, hq, k⟩ := h
    have h0 := hq.num0; have h1 := hq.n; have h2 := hq.d; have h3 := q.den_pos
    have hz : (rT q).length ≤ sizeLine := Nat.le_trans (rT_len hq) (by decide)
    have en : ((q.num.toNat : Nat) : Int) = q.num := by omega
    refine ⟨_, (pss_cons (ps_asg (pe_bm PySem.F.plainAttrs_str PySem.F.slot_str_partition PySem.F.type_str_partition mt_partN (pv 0) (pa_cons pe_str pa_nil)) (pg_tup rfl (pgs_cons (pg_name (i := 1) sc_ratio_of.nd rfl (.inl rfl)) (pgs_cons (pg_name (i := 2) sc_ratio_of.nd rfl (.inl rfl)) (pgs_cons (pg_name (i := 3) sc_ratio_of.nd rfl (.inl rfl)) pgs_nil)))))
      (pss_cons (ps_set (i := 4) sc_ratio_of.nd rfl (.inl rfl) (pe_tup (pa_cons (pe_fn T.f_whole_of (ok_whole_of T) (hr.mono (by decide)) (pa_cons (pv 1) pa_nil)) (pa_cons (pe_ifExp (pt_truth (pv 2) (by intro _; rfl)) (pe_fn T.f_whole_of (ok_whole_of T) (hr.mono (by decide)) (pa_cons (pv 3) pa_nil)) pe_int) pa_nil))))
      (pss_cons (ps_if (PW.pt (pw_or (pt_not (pt_val (pe_fn T.f_is_ratio (ok_is_ratio T) (hr.mono (by decide)) (pa_cons (pv 4) pa_nil)))) (pw_or1 (PW.pt (pw_and (pt_truth (pv 2) (by intro _; rfl)) (pw_and1 (pt_cmpR op_eq (pe_ix ix_seq (pv 4) pe_int (fun _ _ => rfl)) pe_int (nomark _)))))))) (pss_one (ps_ret pe_non)) pss_nil)
      (pss_one (ps_ret (pv 4)))))), ?_⟩
    refine My.i_go (σ' := [some _, none, none, none, none]) rfl ?_
    repeat walk_at "h"
    by_cases hd : q.den = 1
    · refine i_part (rT_part1 hd) rfl hz fun p H1 S1 hp e1 => ?_
      repeat walk_at "h"
      refine ⟨_, rfl, by omega, ?_⟩
      repeat walk_at "h"
      refine ⟨false, ⟨by decide, rfl⟩, ?_⟩
      repeat walk_at "h"
      rename_i r H2 S2 hr e2
      have e2 : H2 r = some (.tup (rat q)) := by rw [e2]; unfold rat; rw [en, hd]; rfl
      refine ⟨_, _, rfl, .of e2, hq.nn, ?_⟩
      repeat walk_at "h"
      refine ⟨false, ⟨by decide, rfl⟩, ?_⟩
      repeat walk_at "h"
      exact k r H2 (S1.trans S2) (S1.free hr) e2
    · refine i_part (rT_part2 hd) rfl hz fun p H1 S1 hp e1 => ?_
      repeat walk_at "h"
      refine ⟨_, rfl, by omega, ?_⟩
      repeat walk_at "h"
      refine ⟨true, ⟨by decide, rfl⟩, ?_⟩
      repeat walk_at "h"
      refine ⟨_, rfl, by omega, ?_⟩
      repeat walk_at "h"
      rename_i r H2 S2 hr e2
      have e2 : H2 r = some (.tup (rat q)) := by rw [e2]; unfold rat; rw [en]
      refine ⟨_, _, rfl, .of e2, hq.nn, ?_⟩
      repeat walk_at "h"
      refine ⟨true, ⟨by decide, rfl⟩, ?_⟩
      repeat walk_at "h"
      refine i_eqF (by omega) ?_
      repeat walk_at "h"
      exact k r H2 (S1.trans S2) (S1.free hr) e2
theorem ok_ascending_1 (T : Tx K mg) : FnAt P w K mg base CX0 3 (He.ga K "ascending") ["rows"] (spAsc K 1) := by
  refine T.f_ascending.f.ok sc_ascending ?_ (fun cdv A outer s H vs Q E hr h => ?_)
  · walk_at "len"
  · obtain ⟨a, xs, ds, rfl, hl, hx, nd, hF, h1, h2, k⟩ := h
    have hxl := dpAll_len hx
    refine ⟨_, (pss_cons (ps_if (pt_cmpR op_lt (pe_callB cr_len rfl T.b_len (by decide +kernel) (pa_cons (pv 0) pa_nil)) pe_int (nomark _)) (pss_one (ps_ret (pe_callTy cr_tupN rfl T.b_tuple (by decide +kernel) (pa_cons (pv 0) pa_nil)))) pss_nil)
      (pss_cons (ps_set (i := 1) sc_ascending.nd rfl (.inl rfl) (pe_op op_fdivW (pe_callB cr_len rfl T.b_len (by decide +kernel) (pa_cons (pv 0) pa_nil)) pe_int))
      (pss_one (ps_ret (pe_fn T.f_merged (ok_merged T) (hr.mono (by decide)) (pa_cons (pe_fn T.f_ascending (ok_ascending_0 T) (hr.mono (by decide)) (pa_cons (pe_slice sl_list (pv 0) po_none (po_some (pv 1))) pa_nil)) (pa_cons (pe_fn T.f_ascending (ok_ascending_0 T) (hr.mono (by decide)) (pa_cons (pe_slice sl_list (pv 0) (po_some (pv 1)) po_none) pa_nil)) pa_nil))))))), ?_⟩
    refine My.i_go (σ' := [some _, none]) rfl ?_
    repeat walk_at "h"
    refine i_lenL hl ?_
    repeat walk_at "h"
    refine ite2 (fun hs => ?_) (fun hs => ?_)
    · have hs := of_decide_eq_true hs
      repeat walk_at "h"
      refine i_tupN hl fun p H1 S1 hp e1 => k p H1 S1 ?_
      rw [srt_few (by omega)]
      exact .tup (.of e1) (hx.same S1)
    have hs : ¬ ((xs.length : Int) < 2) := fun z => hs (decide_eq_true z)
    have hs2 : ¬ ds.length < 2 := by omega
    rw [srt_step hs2] at k
    have hp2 := pow2 0
    repeat walk_at "h"
    refine i_lenL hl ?_
    repeat walk_at "h"
    have eh : (xs.length : Int) / 2 = ((ds.length / 2 : Nat) : Int) := by omega
    rw [eh]
    refine i_slL hl fun p1 H1 S1 hp1 e1 => ?_
    rw [cut_to (by omega)] at e1
    repeat walk_at "h"
    refine ⟨p1, _, ds.take (ds.length / 2), rfl, .of e1, dpAll_take _ (hx.same S1), (noLAll_iff _).mpr fun d hd => (noLAll_iff ds).mp nd d (List.mem_of_mem_take hd), hF.sub fun d hd => List.mem_of_mem_take hd, by rw [List.length_take]; omega, by rw [List.length_take]; omega, fun q2 H2 S2 d2 => ?_⟩
    repeat walk_at "h"
    refine i_slL (S2.seq (S1.seq hl)) fun p3 H3 S3 hp3 e3 => ?_
    rw [cut_from (by omega)] at e3
    repeat walk_at "h"
    refine ⟨p3, _, ds.drop (ds.length / 2), rfl, .of e3, dpAll_drop _ (hx.same ((S1.trans S2).trans S3)), (noLAll_iff _).mpr fun d hd => (noLAll_iff ds).mp nd d (List.mem_of_mem_drop hd), hF.sub fun d hd => List.mem_of_mem_drop hd, by rw [List.length_drop]; omega, by rw [List.length_drop]; omega, fun q4 H4 S4 d4 => ?_⟩
    repeat walk_at "h"
    have m2 : ∀ d ∈ srt 0 (ds.take (ds.length / 2)), d ∈ ds := fun d hd => List.mem_of_mem_take (srt_mem _ _ d hd)
    have m4 : ∀ d ∈ srt 0 (ds.drop (ds.length / 2)), d ∈ ds := fun d hd => List.mem_of_mem_drop (srt_mem _ _ d hd)
    refine ⟨q2, q4, _, _, rfl, (d2.same S3).same S4, d4, (noLAll_iff _).mpr fun d hd => (noLAll_iff ds).mp nd d (m2 d hd), (noLAll_iff _).mpr fun d hd => (noLAll_iff ds).mp nd d (m4 d hd), hF.sub fun d hd => ?_, by rw [srt_len, srt_len, List.length_take, List.length_drop]; omega, fun q5 H5 S5 d5 => k q5 H5 ((((S1.trans S2).trans S3).trans S4).trans S5) d5⟩
    rcases List.mem_append.mp hd with hd | hd
    · exact m2 d hd
    · exact m4 d hd
theorem sc_need_setting : FnScope ["bench", "setting"] ["bench", "setting"] (defScope s_need_setting) := ⟨rfl, rfl, rfl, by decide +kernel, rfl, by decide +kernel, by decide +kernel⟩
theorem ok_need_setting (T : Tx K mg) : FnAt P w K mg base CX0 3 (He.ga K "need_setting") ["bench", "setting"] (spNeed K (He.ga K "Bench")) := by
  refine T.f_need_setting.f.ok sc_need_setting ?_ (fun cdv A outer s H vs Q E hr h => ?_)
  · walk_at "len"
  · obtain ⟨b, L, x, s', rfl, hB, okL, hx, hs, k⟩ := h
    refine ⟨_, (pss_one (ps_if (pt_cmpR (op_notInDT (hu65 hr)) (pv 1) (pe_pr T.c_Bench T.p_Bench_settings (ok_Bench_settings T) (hr.mono (by decide)) (pv 0)) (by with_unfolding_all rfl)) (pss_one ps_never) pss_nil)), ?_⟩
    refine My.i_go (σ' := [some _, some _]) rfl ?_
    repeat walk_at "h"
    refine i_bProp hB ⟨b, L, rfl, hB, fun p dp => ?_⟩
    refine ⟨settingD s', _, hx, dp, shaped_setting (hs.ok okL), shaped_settings okL, ?_⟩
    rw [any_settings, decide_eq_true (mem_raw.mpr hs)]
    repeat walk_at "h"
    exact k
theorem sc_reaches : FnScope ["source", "line", "u", "m", "ohms", "above"] ["source", "line"] (defScope s_reaches) := ⟨rfl, rfl, rfl, by decide +kernel, rfl, by decide +kernel, by decide +kernel⟩
theorem ok_reaches (T : Tx K mg) : FnAt P w K mg base CX0 3 (He.ga K "reaches") ["source", "line"] (spReaches K (He.ga K "Source")) := by
  refine T.f_reaches.f.ok sc_reaches ?_ (fun cdv A outer s H vs Q E hr h => ?_)
  · walk_at "len"
  · obtain ⟨so, ln, a, b, v, r, q, m, rfl, hS, hln, ha, hb, zv, zr, zq, zm, k⟩ := h
    have hc := T.c_Source
    obtain ⟨dx, va, oa, hso, hva, hoa, v0, r0⟩ := hS
    have c1 : CMulW q.num (m.den : Int) := mulZ (a := 100) (zq.mono (by decide)).1 (zm.mono (by decide)).den (by decide)
    have c2 : CMulW (q.num * (m.den : Int)) (r.den : Int) := mulZ (a := 200) (abs_mul_lt (zq.mono (show _ ≤ 100 by decide)).1 (zm.mono (show _ ≤ 100 by decide)).den) (zr.mono (by decide)).den (by decide)
    have c3 : CMulW m.num r.num := mulZ (a := 100) (zm.mono (by decide)).1 (zr.mono (by decide)).1 (by decide)
    have c4 : CMulW (m.num * r.num) (q.den : Int) := mulZ (a := 200) (abs_mul_lt (zm.mono (show _ ≤ 100 by decide)).1 (zr.mono (show _ ≤ 100 by decide)).1) (zq.mono (by decide)).den (by decide)
    have c5 : CMulW (q.den : Int) (m.den : Int) := mulZ (a := 100) (zq.mono (by decide)).den (zm.mono (by decide)).den (by decide)
    have c6 : CMulW ((q.den : Int) * (m.den : Int)) (r.den : Int) := mulZ (a := 200) (abs_mul_lt (zq.mono (show _ ≤ 100 by decide)).den (zm.mono (show _ ≤ 100 by decide)).den) (zr.mono (by decide)).den (by decide)
    have z1 : (q.num * (m.den : Int) * (r.den : Int)).natAbs < 2 ^ 201 := Nat.lt_of_lt_of_le (abs_mul_lt (abs_mul_lt zq.1 zm.den) zr.den) (Nat.pow_le_pow_right (by decide) (by decide))
    have z2 : (m.num * r.num * (q.den : Int)).natAbs < 2 ^ 201 := Nat.lt_of_lt_of_le (abs_mul_lt (abs_mul_lt zm.1 zr.1) zq.den) (Nat.pow_le_pow_right (by decide) (by decide))
    have z3 : ((q.den : Int) * (m.den : Int) * (r.den : Int)).natAbs < 2 ^ 300 := Nat.lt_of_lt_of_le (abs_mul_lt (abs_mul_lt zq.den zm.den) zr.den) (Nat.pow_le_pow_right (by decide) (by decide))
    have z4 : (q.num * (m.den : Int) * (r.den : Int) + m.num * r.num * (q.den : Int)).natAbs < 2 ^ 300 := Nat.lt_of_lt_of_le (abs_add_lt z1 z2) (Nat.pow_le_pow_right (by decide) (by decide))
    have z5 : 0 < (q.den : Int) * (m.den : Int) * (r.den : Int) := by
      have := den_pos q; have := den_pos m; have := den_pos r
      exact Int.mul_pos (Int.mul_pos (by omega) (by omega)) (by omega)
    refine ⟨_, (pss_cons (ps_asg (pv 1) (pg_tup rfl (pgs_cons (pg_name (i := 2) sc_reaches.nd rfl (.inl rfl)) (pgs_cons (pg_name (i := 3) sc_reaches.nd rfl (.inl rfl)) pgs_nil))))
      (pss_cons (ps_set (i := 4) sc_reaches.nd rfl (.inl rfl) (pe_pr T.c_Source T.p_Source_ohms (ok_Source_ohms T) (hr.mono (by decide)) (pv 0)))
      (pss_cons (ps_set (i := 5) sc_reaches.nd rfl (.inl rfl) (pe_op op_add (pe_op op_mulW (pe_op op_mulW (pe_ix ix_seq (pv 2) pe_int (fun _ _ => rfl)) (pe_ix ix_seq (pv 3) pe_int (fun _ _ => rfl))) (pe_ix ix_seq (pv 4) pe_int (fun _ _ => rfl))) (pe_op op_mulW (pe_op op_mulW (pe_ix ix_seq (pv 3) pe_int (fun _ _ => rfl)) (pe_ix ix_seq (pv 4) pe_int (fun _ _ => rfl))) (pe_ix ix_seq (pv 2) pe_int (fun _ _ => rfl)))))
      (pss_one (ps_ret (pe_fn T.f_at_least (ok_at_least_raw T) (hr.mono (by decide)) (pa_cons (pe_pr T.c_Source T.p_Source_volts (ok_Source_volts T) (hr.mono (by decide)) (pv 0)) (pa_cons (pe_tup (pa_cons (pv 5) (pa_cons (pe_op op_mulW (pe_op op_mulW (pe_ix ix_seq (pv 2) pe_int (fun _ _ => rfl)) (pe_ix ix_seq (pv 3) pe_int (fun _ _ => rfl))) (pe_ix ix_seq (pv 4) pe_int (fun _ _ => rfl))) pa_nil))) pa_nil)))))))), ?_⟩
    refine My.i_go (σ' := [some _, some _, none, none, none, none]) rfl ?_
    repeat walk_at "h"
    rename_i p1 H1 S1 p10 e1
    refine ⟨va, p1, v, _, _, rfl, S1.seqT hva, .of e1, z5, zv.mono (by decide), z4, z3, ?_⟩
    rw [line_raw]
    exact k H1 S1
theorem sc_lowered : FnScope ["ranges", "spread", "share", "rows", "name", "load", "unit", "down", "top"] ["ranges", "spread"] (defScope s_lowered) := ⟨rfl, rfl, rfl, by decide +kernel, rfl, by decide +kernel, by decide +kernel⟩
theorem ok_lowered (T : Tx K mg) : FnAt P w K mg base CX0 3 (He.ga K "lowered") ["ranges", "spread"] (spLowered K) := by
  refine T.f_lowered.f.ok sc_lowered ?_ (fun cdv A outer s H vs Q E hr h => ?_)
  · walk_at "len"
  · obtain ⟨b, s', xs, rows, rfl, hb, hx, hs, h4, hD, k⟩ := h
    refine ⟨_, (pss_cons (ps_set (i := 2) sc_lowered.nd rfl (.inl rfl) (pe_fn T.f_ratio (ok_ratio T) (hr.mono (by decide)) (pa_cons (pe_op op_sub (pe_globI rfl T.m_MOST_SPREAD) (pv 1)) (pa_cons (pe_globI rfl T.m_MOST_SPREAD) pa_nil))))
      (pss_cons (ps_set (i := 3) sc_lowered.nd rfl (.inl rfl) (pe_lst pa_nil))
      (pss_cons (ps_for PassesOwn.never rfl (pi_list (pv 0)) (pg_tup rfl (pgs_cons (pg_name (i := 4) sc_lowered.nd rfl (.inl rfl)) (pgs_cons (pg_name (i := 5) sc_lowered.nd rfl (.inl rfl)) (pgs_cons (pg_name (i := 6) sc_lowered.nd rfl (.inl rfl)) (pgs_cons (pg_name (i := 7) sc_lowered.nd rfl (.inl rfl)) (pgs_cons (pg_name (i := 8) sc_lowered.nd rfl (.inl rfl)) pgs_nil)))))) (pss_one (ps_expr (pe_bm PySem.F.plainAttrs_list PySem.F.slot_list_append PySem.F.type_list_append mt_append (pv 3) (pa_cons (pe_tup (pa_cons (pv 4) (pa_cons (pv 5) (pa_cons (pv 6) (pa_cons (pe_ifExp (pt_cmpR op_isN (pv 7) pe_non (nomark _)) pe_non (pe_fn T.f_times (ok_times T) (hr.mono (by decide)) (pa_cons (pv 7) (pa_cons (pv 2) pa_nil)))) (pa_cons (pv 8) pa_nil)))))) pa_nil)))))
      (pss_one (ps_ret (pe_callTy cr_tupN rfl T.b_tuple (by decide +kernel) (pa_cons (pv 3) pa_nil))))))), ?_⟩
    refine My.i_go (σ' := [some _, some _, none, none, none, none, none, none, none]) rfl ?_
    repeat walk_at "h"
    refine ⟨20 - (s' : Int), 20, rfl, by decide, Nat.lt_of_lt_of_le (show (20 - (s' : Int)).natAbs < 2 ^ 30 by omega) (Nat.pow_le_pow_right (by decide) (by decide)), Nat.lt_of_lt_of_le (show (20 : Int).natAbs < 2 ^ 30 by decide) (Nat.pow_le_pow_right (by decide) (by decide)), fun q H1 S1 hq e1 => ?_⟩
    repeat walk_at "h"
    rename_i p2 H2 S2 hp2 e2
    have hsh : SqT K H1 q (rat (((20 - s' : Int) : Rat) / ((20 : Int) : Rat))) := .of e1
    have zsh : Sz 40 (((20 - s' : Int) : Rat) / ((20 : Int) : Rat)) := sz_divI (by omega) (by omega) (by omega)
    have hxl : xs.length = rows.length := by have := dpAll_len hx; rwa [List.length_map] at this
    refine forq_list (xs := xs) (fun j σ' H' => ∃ (w1 w2 w3 w4 w5 : Option V) (acc : List V), σ' = [some (.ref b), some (.int s'), some (.ref q), some (.ref p2), w1, w2, w3, w4, w5] ∧ H' p2 = some (.lst acc) ∧ DpAll K H' acc ((rows.take j).map fun r => rowD (lowR s' r)) ∧ Same H1 H') ⟨none, none, none, none, none, [], rfl, e2, .nil, S2⟩ (fun j σ' H' _ ⟨_, _, _, _, _, _, _, _, _, S⟩ => .of (S _ _ (S1 _ _ hb))) ?_ ?_
    · rintro j x σ' H' hj ⟨w1, w2, w3, w4, w5, acc, rfl, e3, ha, S3⟩
      obtain ⟨d, hd, hdp⟩ := dpAll_get (hx.same (S1.trans S3)) hj
      rw [List.getElem?_map] at hd
      obtain ⟨r, hr9, rfl⟩ := Option.map_eq_some_iff.mp hd
      obtain ⟨c, g, u, d', t, rfl, hc, hg, hu, hdd, ht⟩ := row_dp hdp
      repeat walk_at "h"
      refine i_joinHp (fun v H'' => Dp K H'' v (optD (lowR s' r).D) ∧ Same H' H'') (fun c Q' hQ => ?_) (fun c Q' hQ => ?_) ?_
      · have c := of_decide_eq_true c
        rcases opt_dp hdd with ⟨eD, _⟩ | ⟨_, _, _, e9, _⟩
        · repeat walk_at "h"
          exact hQ _ _ ⟨by show Dp K H' .non (optD (r.D.map (lowQ s'))); rw [eD]; exact .non, Same.refl _⟩
        · rw [e9] at c; cases c
      · have c := of_decide_eq_false c
        rcases opt_dp hdd with ⟨eD, e9⟩ | ⟨q0, a0, eD, e9, ha0⟩
        · exact absurd e9 c
        · have hq0 := hD r (List.mem_of_getElem? hr9) q0 eD
          subst e9
          repeat walk_at "h"
          refine ⟨_, _, _, _, 40, rfl, ha0, S3.seqT hsh, hq0.sz.mono (by omega), zsh, by omega, trivial, fun p H5 S5 hp5 e5 => ?_⟩
          exact hQ _ _ ⟨by show Dp K H5 _ (optD (r.D.map (lowQ s'))); rw [eD]; exact dp_rat (.of e5), S5⟩
      · rintro v H5 ⟨hv, S5⟩
        repeat walk_at "h"
        rename_i p6 H6 S6 hp6 e6
        have hal : acc.length = j := by have := dpAll_len ha; rw [List.length_map, List.length_take] at this; have := (List.getElem?_eq_some_iff.mp hr9).1; omega
        have hjl := (List.getElem?_eq_some_iff.mp hr9).1
        have e36 := S6 _ _ (S5 _ _ e3)
        refine i_app e36 (by rw [hal]; exact Nat.lt_of_lt_of_le (show j < 4 by omega) (by decide)) fun H7 B7 e7 => ?_
        have d6 : Dp K H6 (.ref p6) (rowD (lowR s' r)) := dp_row (.of e6) ((hg.same S5).same S6) ((hu.same S5).same S6) (hv.same S6) ((ht.same S5).same S6)
        refine ⟨_, _, _, _, _, _, rfl, e7, ?_, Same.ext ((S3.trans S5).trans S6) hp2 B7⟩
        rw [List.take_add_one, hr9, List.map_append]
        exact dpAll_snoc (dpAll_butN e36 trivial B7 (noL_map (noL_low s') _) ((ha.same S5).same S6)) (dp_butN e36 trivial B7 (noL_low s' r) d6)
    · rintro σ' H' ⟨w1, w2, w3, w4, w5, acc, rfl, e3, ha, S3⟩
      rw [hxl, List.take_length] at ha
      repeat walk_at "h"
      exact i_tupN (.of e3) fun p H5 S5 hp e5 => k p H5 ((S1.trans S3).trans S5) (S1.free (S3.free (hp))) (.tup (.of e5) (ha.same S5))
theorem sc_weakening : FnScope ["ohms", "load"] ["ohms", "load"] (defScope s_weakening) := ⟨rfl, rfl, rfl, by decide +kernel, rfl, by decide +kernel, by decide +kernel⟩
theorem ok_weakening (T : Tx K mg) : FnAt P w K mg base CX0 3 (He.ga K "weakening") ["ohms", "load"] (spWeak K) := by
  refine T.f_weakening.f.ok sc_weakening ?_ (fun cdv A outer s H vs Q E hr h => ?_)
  · walk_at "len"
  · obtain ⟨a, b, r, g, j, rfl, ha, hb, zr, zg, hj, hr0, hg0, k⟩ := h
    have h1 := T.t_ONE
    refine ⟨_, (pss_cons (ps_if (pt_not (pt_val (pe_fn T.f_is_ratio (ok_is_ratio T) (hr.mono (by decide)) (pa_cons (pv 1) pa_nil)))) (pss_one ps_never) pss_nil)
      (pss_one (ps_ret (pe_fn T.f_plus (ok_plus T) (hr.mono (by decide)) (pa_cons (pe_glob (v := .ref _) rfl T.m_ONE rfl) (pa_cons (pe_fn T.f_times (ok_times T) (hr.mono (by decide)) (pa_cons (pv 0) (pa_cons (pv 1) pa_nil))) pa_nil)))))), ?_⟩
    refine My.i_go (σ' := [some _, some _]) rfl ?_
    repeat walk_at "h"
    refine ⟨_, _, rfl, hb, hg0, ?_⟩
    repeat walk_at "h"
    refine ⟨_, _, _, _, j, rfl, ha, hb, zr, zg, by omega, trivial, fun p H1 S hp e => ?_⟩
    refine ⟨_, _, (1 : Rat), _, 2 * j + 1, rfl, h1 H1, .of e, sz_one (by omega), (zr.mul zg).mono (by omega), by omega, trivial, fun q H2 S2 hq e2 => ?_⟩
    exact k q H2 (S.trans S2) (S.free hq) e2
theorem sc_covers : FnScope ["one", "other"] ["one", "other"] (defScope s_covers) := ⟨rfl, rfl, rfl, by decide +kernel, rfl, by decide +kernel, by decide +kernel⟩
theorem ok_covers (T : Tx K mg) : FnAt P w K mg base CX0 3 (He.ga K "covers") ["one", "other"] (spSrcCmp K (He.ga K "Source") strong) := by
  refine T.f_covers.f.ok sc_covers ?_ (fun cdv A outer s H vs Q E hr h => ?_)
  · walk_at "len"
  · obtain ⟨s1, s2, v, r, w1, u, j, rfl, ⟨dx, a, b, e1, hv, hr1, v0, r0⟩, ⟨dy, c, d, e2, hw, hu1, w0, u0⟩, zv, zr, zw, zu, hj, k⟩ := h
    have hc := T.c_Source
    refine ⟨_, (pss_cons (ps_if (pt_not (pt_val (pe_fn T.f_at_least (ok_at_least T) (hr.mono (by decide)) (pa_cons (pe_pr T.c_Source T.p_Source_volts (ok_Source_volts T) (hr.mono (by decide)) (pv 0)) (pa_cons (pe_pr T.c_Source T.p_Source_volts (ok_Source_volts T) (hr.mono (by decide)) (pv 1)) pa_nil))))) (pss_one (ps_ret pe_bl)) pss_nil)
      (pss_one (ps_ret (pe_fn T.f_at_least (ok_at_least T) (hr.mono (by decide)) (pa_cons (pe_fn T.f_times (ok_times T) (hr.mono (by decide)) (pa_cons (pe_pr T.c_Source T.p_Source_volts (ok_Source_volts T) (hr.mono (by decide)) (pv 0)) (pa_cons (pe_pr T.c_Source T.p_Source_ohms (ok_Source_ohms T) (hr.mono (by decide)) (pv 1)) pa_nil))) (pa_cons (pe_fn T.f_times (ok_times T) (hr.mono (by decide)) (pa_cons (pe_pr T.c_Source T.p_Source_volts (ok_Source_volts T) (hr.mono (by decide)) (pv 1)) (pa_cons (pe_pr T.c_Source T.p_Source_ohms (ok_Source_ohms T) (hr.mono (by decide)) (pv 0)) pa_nil))) pa_nil)))))), ?_⟩
    refine My.i_go (σ' := [some _, some _]) rfl ?_
    repeat walk_at "h"
    refine ⟨_, _, _, _, j, rfl, hv, hw, zv, zw, by omega, ?_⟩
    repeat walk_at "h"
    refine ite_nb (fun h1 => ?_) (fun h1 => ?_)
    · have h1 : decide (w1 ≤ v) = false := h1
      repeat walk_at "h"
      have q := k H (.refl H)
      unfold strong at q
      rw [h1] at q
      exact q
    · have h1 : decide (w1 ≤ v) = true := h1
      repeat walk_at "h"
      refine ⟨_, _, _, _, j, rfl, hv, hu1, zv, zu, by omega, trivial, fun p H1 S hp e3 => ?_⟩
      repeat walk_at "h"
      refine ⟨_, _, _, _, j, rfl, S.seqT hw, S.seqT hr1, zw, zr, by omega, trivial, fun q H2 S2 hq e4 => ?_⟩
      refine ⟨_, _, _, _, j + j, rfl, S2.seqT (.of e3), .of e4, zv.mul zu, zw.mul zr, by omega, ?_⟩
      have q := k H2 (S.trans S2)
      unfold strong at q
      rw [h1] at q
      exact q
theorem sc__law_names : FnScope ["_law_pot_here", "_law_many", "_law_pool"] ["_law_pot_here", "_law_many"] (defScope s__law_names) := ⟨rfl, rfl, rfl, by decide +kernel, rfl, by decide +kernel, by decide +kernel⟩
theorem ok__law_names (T : Tx K mg) : FnAt P w K mg base CX0 3 (He.ga K "_law_names") ["_law_pot_here", "_law_many"] (spNames K) := by
  refine T.f__law_names.f.ok sc__law_names ?_ (fun cdv A outer s H vs Q E hr h => ?_)
  · walk_at "len"
  · obtain ⟨p, m, n, rfl, hP, hn, hm, k⟩ := h
    refine ⟨_, (pss_cons (ps_set (i := 2) sc__law_names.nd rfl (.inl rfl) (pe_lst (pa_cons pe_str (pa_cons pe_str (pa_cons pe_str (pa_cons pe_str (pa_cons pe_str (pa_cons pe_str (pa_cons pe_str (pa_cons pe_str (pa_cons pe_str (pa_cons pe_str (pa_cons pe_str (pa_cons pe_str (pa_cons pe_str pa_nil)))))))))))))))
      (pss_one (ps_ret (pe_fn T.f__law_some (ok__law_some T) (hr.mono (by decide)) (pa_cons (pv 0) (pa_cons (pv 2) (pa_cons (pv 1) pa_nil))))))), ?_⟩
    refine My.i_go (σ' := [some _, some _, none]) rfl ?_
    repeat walk_at "h"
    rename_i q H1 S q0 eq
    refine ⟨p, q, pool, m, n, rfl, hP.same S, hn, .of eq, pool_nd, hm, by decide, fun r H' ns B P r0 er hl hnd hsub => ?_⟩
    exact k r H' ns (S.but.trans B) P (S.free r0) er hl hnd fun x hx => pool_ok x (hsub x hx)
theorem sc__law_plus : FnScope ["_law_one", "_law_other"] ["_law_one", "_law_other"] (defScope s__law_plus) := ⟨rfl, rfl, rfl, by decide +kernel, rfl, by decide +kernel, by decide +kernel⟩
theorem ok__law_plus (T : Tx K mg) : FnAt P w K mg base CX0 3 (He.ga K "_law_plus") ["_law_one", "_law_other"] (spPlus K) := by
  refine T.f__law_plus.f.ok sc__law_plus ?_ (fun cdv A outer s H vs Q E hr h => ?_)
  · walk_at "len"
  · obtain ⟨a, b, p, q, j, rfl, hp, hq, zp, zq, hj, -, k⟩ := h
    have z1 := zp.1; have z2 := zp.den; have z3 := zq.1; have z4 := zq.den
    refine ⟨_, (pss_one (ps_ret (pe_fn T.f__law_pair (ok__law_pair T) (hr.mono (by decide)) (pa_cons (pe_op op_add (pe_op op_mulW (pe_ix ix_seq (pv 0) pe_int (fun _ _ => rfl)) (pe_ix ix_seq (pv 1) pe_int (fun _ _ => rfl))) (pe_op op_mulW (pe_ix ix_seq (pv 1) pe_int (fun _ _ => rfl)) (pe_ix ix_seq (pv 0) pe_int (fun _ _ => rfl)))) (pa_cons (pe_op op_mulW (pe_ix ix_seq (pv 0) pe_int (fun _ _ => rfl)) (pe_ix ix_seq (pv 1) pe_int (fun _ _ => rfl))) pa_nil))))), ?_⟩
    refine My.i_go (σ' := [some _, some _]) rfl ?_
    repeat walk_at "h"
    refine ⟨_, _, rfl, dd_pos p q, pow_le_4000 (abs_add_lt (abs_mul_lt z1 z4) (abs_mul_lt z3 z2)) (by omega), pow_le_4000 (abs_mul_lt z2 z4) (by omega), fun r H' S hr e => ?_⟩
    rw [add_div] at e
    exact k r H' S hr e
theorem sc__law_times : FnScope ["_law_one", "_law_other"] ["_law_one", "_law_other"] (defScope s__law_times) := ⟨rfl, rfl, rfl, by decide +kernel, rfl, by decide +kernel, by decide +kernel⟩
theorem ok__law_times (T : Tx K mg) : FnAt P w K mg base CX0 3 (He.ga K "_law_times") ["_law_one", "_law_other"] (spTimes K) := by
  refine T.f__law_times.f.ok sc__law_times ?_ (fun cdv A outer s H vs Q E hr h => ?_)
  · walk_at "len"
  · obtain ⟨a, b, p, q, j, rfl, hp, hq, zp, zq, hj, -, k⟩ := h
    have z1 := zp.1; have z2 := zp.den; have z3 := zq.1; have z4 := zq.den
    refine ⟨_, (pss_one (ps_ret (pe_fn T.f__law_pair (ok__law_pair T) (hr.mono (by decide)) (pa_cons (pe_op op_mulW (pe_ix ix_seq (pv 0) pe_int (fun _ _ => rfl)) (pe_ix ix_seq (pv 1) pe_int (fun _ _ => rfl))) (pa_cons (pe_op op_mulW (pe_ix ix_seq (pv 0) pe_int (fun _ _ => rfl)) (pe_ix ix_seq (pv 1) pe_int (fun _ _ => rfl))) pa_nil))))), ?_⟩
    refine My.i_go (σ' := [some _, some _]) rfl ?_
    repeat walk_at "h"
    refine ⟨_, _, rfl, dd_pos p q, pow_le_4000 (abs_mul_lt z1 z3) (by omega), pow_le_4000 (abs_mul_lt z2 z4) (by omega), fun r H' S hr e => ?_⟩
    rw [mul_div] at e
    exact k r H' S hr e
theorem sc__law_over : FnScope ["_law_one", "_law_other"] ["_law_one", "_law_other"] (defScope s__law_over) := ⟨rfl, rfl, rfl, by decide +kernel, rfl, by decide +kernel, by decide +kernel⟩
theorem ok__law_over (T : Tx K mg) : FnAt P w K mg base CX0 3 (He.ga K "_law_over") ["_law_one", "_law_other"] (spOver K) := by
  refine T.f__law_over.f.ok sc__law_over ?_ (fun cdv A outer s H vs Q E hr h => ?_)
  · walk_at "len"
  · obtain ⟨a, b, p, q, j, rfl, hp, hq, zp, zq, hj, h0, k⟩ := h
    have z1 := zp.1; have z2 := zp.den; have z3 := zq.1; have z4 := zq.den
    refine ⟨_, (pss_one (ps_ret (pe_fn T.f__law_pair (ok__law_pair T) (hr.mono (by decide)) (pa_cons (pe_op op_mulW (pe_ix ix_seq (pv 0) pe_int (fun _ _ => rfl)) (pe_ix ix_seq (pv 1) pe_int (fun _ _ => rfl))) (pa_cons (pe_op op_mulW (pe_ix ix_seq (pv 0) pe_int (fun _ _ => rfl)) (pe_ix ix_seq (pv 1) pe_int (fun _ _ => rfl))) pa_nil))))), ?_⟩
    refine My.i_go (σ' := [some _, some _]) rfl ?_
    repeat walk_at "h"
    refine ⟨_, _, rfl, dn_pos p h0, pow_le_4000 (abs_mul_lt z1 z4) (by omega), pow_le_4000 (abs_mul_lt z2 z3) (by omega), fun r H' S hr e => ?_⟩
    rw [div_div h0] at e
    exact k r H' S hr e
theorem sc__law_loads_of : FnScope ["_law_pot_here", "_law_many", "_law_way", "_law_found", "_law_lap", "_law_at", "_law_is_less_here"] ["_law_pot_here", "_law_many", "_law_way"] (defScope s__law_loads_of) := ⟨rfl, rfl, rfl, by decide +kernel, rfl, by decide +kernel, by decide +kernel⟩
theorem ok__law_loads_of (T : Tx K mg) : FnAt P w K mg base CX0 3 (He.ga K "_law_loads_of") ["_law_pot_here", "_law_many", "_law_way"] (spLoadsOf K) := by
  refine T.f__law_loads_of.f.ok sc__law_loads_of ?_ (fun cdv A outer s H vs Q E hr h => ?_)
  · walk_at "len"
  · obtain ⟨p, m, w', n, rfl, hP, hn, hm, k⟩ := h
    refine ⟨_, (pss_cons (ps_setLc (i := 3) (own := [("_law_lap", 4)]) rfl sc__law_loads_of.nd rfl rfl (sw_true rfl rfl rfl (by decide +kernel)) (pi_range1 rfl T.b_range (pa_cons (pv 1) pa_nil)) (blkOk_by (own := [("_law_lap", 4)]) (N := ["_law_pot_here", "_law_many", "_law_way", "_law_found", "_law_lap", "_law_at", "_law_is_less_here"]) (sc := defScope s__law_loads_of) (by decide +kernel)) (fun _ _ _ _ _ => (pg_name (i := 4) sc__law_loads_of.nd rfl (.inl rfl))) (fun _ _ _ _ _ => pts_nil) (fun _ _ _ _ _ => (pe_fn T.f__law_pair (ok__law_pair T) (hr.mono (by decide)) (pa_cons (pe_fn T.f__law_take (ok__law_take T) (hr.mono (by decide)) (pa_cons (pv 0) (pa_cons pe_int pa_nil))) (pa_cons (pe_op op_add pe_int (pe_fn T.f__law_take (ok__law_take T) (hr.mono (by decide)) (pa_cons (pv 0) (pa_cons pe_int pa_nil)))) pa_nil)))))
      (pss_cons (ps_if (PW.pt (pw_or (pt_cmpR op_eq (pv 2) pe_int (nomark _)) (pw_or1 (pt_cmpR op_eq (pv 1) pe_int (nomark _))))) (pss_one (ps_ret (pv 3))) pss_nil)
      (pss_cons (ps_for PassesOwn.never rfl (pi_range2 rfl T.b_range (pa_cons pe_int (pa_cons (pv 1) pa_nil))) (pg_name (i := 5) sc__law_loads_of.nd rfl (.inl rfl)) (pss_cons (ps_set (i := 6) sc__law_loads_of.nd rfl (.inl rfl) (pe_fn T.f__law_is_less (ok__law_is_less T) (hr.mono (by decide)) (pa_cons (pe_ix ix_seq (pv 3) (pv 5) (fun _ _ => rfl)) (pa_cons (pe_ix ix_seq (pv 3) (pe_op op_sub (pv 5) pe_int) (fun _ _ => rfl)) pa_nil))))
      (pss_one (ps_if (PW.pt (pw_or (pt_cmpR op_eq (pv 2) pe_int (nomark _)) (pw_or (PW.pt (pw_and (pt_cmpR op_eq (pv 2) pe_int (nomark _)) (pw_and1 (pt_not (pt_val (pv 6)))))) (pw_or1 (PW.pt (pw_and (pt_cmpR op_eq (pv 2) pe_int (nomark _)) (pw_and1 (pt_val (pv 6))))))))) (pss_one (ps_asg (pe_ix ix_seq (pv 3) (pe_op op_sub (pv 5) pe_int) (fun _ _ => rfl)) (pg_sub (pv 3) (pv 5) set_list))) pss_nil))))
      (pss_one (ps_ret (pv 3)))))), ?_⟩
    refine My.i_go (σ' := [some _, some _, some _, none, none, none, none]) rfl ?_
    repeat walk_at "h"
    refine i_rngv (by omega) (by omega) ?_
    rw [Int.toNat_natCast]
    refine lcq_y (n := m) (fun A i H' acc => H A = none ∧ p ≠ A ∧ But p H H' ∧ Pot H' p (n + 2 * i) ∧ H' A = some (.lst acc) ∧ ∃ qs : List Rat, DpAll K H' acc (qs.map ratD) ∧ qs.length = i ∧ ∀ q ∈ qs, RatOk q) (fun A H' S hA e => ⟨hA, hP.ne hA, S.but, (hP.same S).mono (by omega), e, [], .nil, rfl, fun q hq => by cases hq⟩) (fun A i H' acc hi _ => hi) (fun A H' acc _ => Nat.le_refl _) ?_ ?_
    · rintro A i x H' H1' acc hi ⟨hA, npA, B, P, eA, qs, ha, hl, hq⟩ ⟨rfl, rfl⟩
      refine ⟨rfl, ?_⟩
      repeat walk_at "h"
      refine ⟨p, 8, n + 2 * i, rfl, P, by omega, by decide, by decide, fun r H2 r0 r1 P2 B2 => ?_⟩
      repeat walk_at "h"
      refine ⟨p, 2, n + 2 * i + 1, rfl, P2, by omega, by decide, by decide, fun r' H3 r0' r1' P3 B3 => ?_⟩
      repeat walk_at "h"
      have sp1 : (2 : Nat) ^ 30 ≤ 2 ^ 4000 := Nat.pow_le_pow_right (by decide) (by decide)
      refine ⟨r, 1 + r', rfl, by omega, Nat.lt_of_lt_of_le (show r.natAbs < 2 ^ 30 by omega) sp1, Nat.lt_of_lt_of_le (show (1 + r').natAbs < 2 ^ 30 by omega) sp1, fun a H4 S4 ha4 e4 => ?_⟩
      have eA4 := S4 _ _ (B3 _ _ npA.symm (B2 _ _ npA.symm eA))
      have hcc : acc.length = i := by rw [dpAll_len ha, List.length_map, hl]
      refine turnC_end eA4 (by rw [hcc]; omega) fun H5 B5 e5 => ?_
      obtain ⟨lp, ep⟩ := P.some
      obtain ⟨lp2, ep2⟩ := P2.some
      refine ⟨hA, npA, But.ext (((B.trans B2).trans B3).trans S4.but) hA B5, (((P3.same S4).butne B5 npA).mono (by omega)), e5, qs ++ [((r : Int) : Rat) / ((1 + r' : Int) : Rat)], ?_, by rw [List.length_append, hl]; rfl, ?_⟩
      · rw [List.map_append]
        refine dpAll_butN eA4 trivial B5 (by rw [← List.map_append]; exact noL_map noL_rat _) (dpAll_snoc ((dpAll_butN ep2 trivial B3 (noL_map noL_rat _) (dpAll_butN ep trivial B2 (noL_map noL_rat _) ha)).same S4) (dp_rat (.of e4)))
      · intro q hq2
        rcases List.mem_append.mp hq2 with h | h
        · exact hq q h
        · rw [List.mem_singleton.mp h]
          exact ratOk_div r0 (by omega) (by omega) (by omega)
    · rintro A H' acc ⟨hA, npA, B, P, eA, qs, ha, hl, hq⟩
      repeat walk_at "h"
      refine i_eqI ?_
      refine ⟨_, rfl, ?_⟩
      have fin : ∀ (H2 : Hp) (acc : List V) (qs : List Rat), But p H H2 → Pot H2 p (n + 2 * m) → H2 A = some (.lst acc) → DpAll K H2 acc (qs.map ratD) → qs.length = m → (∀ q ∈ qs, RatOk q) → Q (.ref A) H2 := fun H2 acc qs B P e hd hl hq => k A H2 acc qs B P hA e hd hl hq
      clear k
      refine ite2 (fun c => ?_) (fun c => ?_)
      · repeat walk_at "h"
        exact fin H' acc qs B P eA ha hl hq
      repeat walk_at "h"
      refine i_eqI ?_
      refine ⟨_, rfl, ?_⟩
      refine ite2 (fun c2 => ?_) (fun c2 => ?_)
      · repeat walk_at "h"
        exact fin H' acc qs B P eA ha hl hq
      have c2 : m ≠ 0 := fun z => c2 (by rw [z]; rfl)
      repeat walk_at "h"
      refine i_rng2v (by omega) (by omega) (by omega) (by omega) ?_
      rw [show ((m : Int) - 1).toNat = m - 1 by omega]
      refine forq_n (n := m - 1) (fun i σ2 H2 => ∃ (w5 w6 : Option V) (acc : List V) (qs : List Rat), σ2 = [some (.ref p), some (.int m), some (.int w'), some (.ref A), none, w5, w6] ∧ H2 A = some (.lst acc) ∧ DpAll K H2 acc (qs.map ratD) ∧ qs.length = m ∧ (∀ q ∈ qs, RatOk q) ∧ But p H H2 ∧ Pot H2 p (n + 2 * m)) ⟨none, none, acc, qs, rfl, eA, ha, hl, hq, B, P⟩ (fun _ _ _ hi _ => hi) (fun _ _ _ => Nat.le_refl _) ?_ ?_
      · clear eA ha hl hq B P
        rintro i x σ2 H2 H2' hi ⟨w5, w6, acc, qs, rfl, eA, ha, hl, hq, B, P⟩ ⟨rfl, rfl⟩
        have hcc : acc.length = m := by rw [dpAll_len ha, List.length_map, hl]
        obtain ⟨v1, hv1, dv1⟩ := dpAll_at ha (i := i + 1) (d := ratD (qs[i + 1]'(by omega))) (by rw [List.getElem?_map, List.getElem?_eq_getElem]; rfl)
        obtain ⟨v0, hv0, dv0⟩ := dpAll_at ha (i := i) (d := ratD (qs[i]'(by omega))) (by rw [List.getElem?_map, List.getElem?_eq_getElem]; rfl)
        have ok1 := hq (qs[i + 1]'(by omega)) (List.getElem_mem _)
        have ok0 := hq (qs[i]'(by omega)) (List.getElem_mem _)
        obtain ⟨a1, rfl, h1⟩ := rat_dp dv1
        obtain ⟨a0, rfl, h0⟩ := rat_dp dv0
        have at1 : atI acc (1 + (i : Int)) = some (.ref a1) := by rw [show (1 + (i : Int)) = ((i + 1 : Nat) : Int) by omega]; exact atI_nat hv1
        have at0 : atI acc (1 + (i : Int) - 1) = some (.ref a0) := by rw [show (1 + (i : Int) - 1) = ((i : Nat) : Int) by omega]; exact atI_nat hv0
        repeat walk_at "h"
        refine i_ixsL (.of eA) at1 ?_
        repeat walk_at "h"
        refine i_ixsL (.of eA) at0 ?_
        repeat walk_at "h"
        refine ⟨a1, a0, qs[i + 1], qs[i], 20, rfl, h1, h0, ok1.sz, ok0.sz, by decide, ?_⟩
        walk_at "toif"
        with_reducible refine My.i_ifA (My.anyT_or ?_ (My.anyT_or (My.anyT_and ?_ (My.anyT_not ?_)) (My.anyT_and ?_ ?_))) ?_ ?_
        · intro QB hQ
          repeat walk_at "h"
          exact i_eqI ⟨_, rfl, hQ _⟩
        · intro QB hQ
          repeat walk_at "h"
          exact i_eqI ⟨_, rfl, hQ _⟩
        · intro QB hQ
          repeat walk_at "h"
          exact hQ _
        · intro QB hQ
          repeat walk_at "h"
          exact i_eqI ⟨_, rfl, hQ _⟩
        · intro QB hQ
          repeat walk_at "h"
          exact hQ _
        · repeat walk_at "h"
          refine i_ixsL (.of eA) at0 ?_
          repeat walk_at "h"
          refine i_setL eA (j := i + 1) (by rw [show (1 + (i : Int)) = ((i + 1 : Nat) : Int) by omega]; unfold ixN; rw [if_pos (by omega), if_pos (by omega)]; simp) fun H3 B3 e3 => ?_
          refine ⟨_, _, _, qs.set (i + 1) qs[i], rfl, e3, ?_, by rw [List.length_set, hl], ?_, But.ext B hA B3, P.butne B3 npA⟩
          · refine dpAll_butN eA trivial B3 (noL_map noL_rat _) ?_
            rw [List.map_set]
            exact dpAll_set _ ha dv0
          · intro q hq2
            rcases mem_set hq2 with h | h
            · exact hq q h
            · rw [h]; exact ok0
        · repeat walk_at "h"
          exact ⟨_, _, acc, qs, rfl, eA, ha, hl, hq, B, P⟩
      · clear eA ha hl hq B P
        rintro σ2 H2 ⟨w5, w6, acc, qs, rfl, eA, ha, hl, hq, B, P⟩
        repeat walk_at "h"
        exact fin H2 acc qs B P eA ha hl hq
theorem sc__law_shape : FnScope ["_law_pot_here", "_law_some_here"] ["_law_pot_here"] (defScope s__law_shape) := ⟨rfl, rfl, rfl, by decide +kernel, rfl, by decide +kernel, by decide +kernel⟩
theorem ok__law_shape (T : Tx K mg) : FnAt P w K mg base CX0 3 (He.ga K "_law_shape") ["_law_pot_here"] (spShapeF K) := by
  refine T.f__law_shape.f.ok sc__law_shape ?_ (fun cdv A outer s H vs Q E hr h => ?_)
  · walk_at "len"
  · obtain ⟨p, n, rfl, hP, hn, k⟩ := h
    refine ⟨_, (pss_cons (ps_set (i := 1) sc__law_shape.nd rfl (.inl rfl) (pe_lst (pa_cons (pe_tup (pa_cons (pe_lst (pa_cons pe_int pa_nil)) (pa_cons pe_int pa_nil))) (pa_cons (pe_tup (pa_cons (pe_lst (pa_cons pe_int (pa_cons pe_int pa_nil))) (pa_cons pe_int pa_nil))) (pa_cons (pe_tup (pa_cons (pe_lst (pa_cons pe_int pa_nil)) (pa_cons pe_int pa_nil))) (pa_cons (pe_tup (pa_cons (pe_lst (pa_cons pe_int pa_nil)) (pa_cons pe_int pa_nil))) (pa_cons (pe_tup (pa_cons (pe_lst (pa_cons pe_int (pa_cons pe_int pa_nil))) (pa_cons pe_int pa_nil))) (pa_cons (pe_tup (pa_cons (pe_lst (pa_cons pe_int (pa_cons pe_int pa_nil))) (pa_cons pe_int pa_nil))) (pa_cons (pe_tup (pa_cons (pe_lst (pa_cons pe_int (pa_cons pe_int pa_nil))) (pa_cons pe_int pa_nil))) (pa_cons (pe_tup (pa_cons (pe_lst (pa_cons pe_int pa_nil)) (pa_cons pe_int pa_nil))) (pa_cons (pe_tup (pa_cons (pe_lst (pa_cons pe_int pa_nil)) (pa_cons pe_int pa_nil))) pa_nil)))))))))))
      (pss_one (ps_ret (pe_fn T.f__law_of (ok__law_of T) (hr.mono (by decide)) (pa_cons (pv 0) (pa_cons (pe_op op_cat (pv 1) (pe_lst (pa_cons (pe_tup (pa_cons (pe_lst (pa_cons pe_int (pa_cons pe_int (pa_cons pe_int pa_nil)))) (pa_cons pe_int pa_nil))) (pa_cons (pe_tup (pa_cons (pe_lst (pa_cons pe_int (pa_cons pe_int pa_nil))) (pa_cons pe_int pa_nil))) (pa_cons (pe_tup (pa_cons (pe_lst (pa_cons pe_int pa_nil)) (pa_cons pe_int pa_nil))) pa_nil))))) pa_nil)))))), ?_⟩
    refine My.i_go (σ' := [some _, none]) rfl ?_
    repeat walk_at "h"
    refine' i_catL ?l1 ?l2 ?hz ?_
    case l1 => walk_at "look"
    case l2 => walk_at "look"
    case hz => exact (show 12 ≤ sizeLine by decide)
    intro lc Hc Sc c0 ec
    obtain ⟨cs, ecs, hcl, all⟩ : ∃ cs : List V, Hc lc = some (.lst cs) ∧ cs.length = 12 ∧ ∀ x ∈ cs, ShF H Hc x := by
      refine ⟨_, ec, rfl, ?_⟩
      refine shF_all ?_ (shF_all ?_ (shF_all ?_ (shF_all ?_ (shF_all ?_ (shF_all ?_ (shF_all ?_ (shF_all ?_ (shF_all ?_ (shF_all ?_ (shF_all ?_ (shF_all ?_ (vs := []) fun x hx => by cases hx)))))))))))
      · exact shF [2] 0 (by walk_at "look") (by walk_at "look") (by walk_at "free") rfl rfl rfl
      · exact shF [2,2] 0 (by walk_at "look") (by walk_at "look") (by walk_at "free") rfl rfl rfl
      · exact shF [3] 0 (by walk_at "look") (by walk_at "look") (by walk_at "free") rfl rfl rfl
      · exact shF [2] 1 (by walk_at "look") (by walk_at "look") (by walk_at "free") rfl rfl rfl
      · exact shF [2,2] 1 (by walk_at "look") (by walk_at "look") (by walk_at "free") rfl rfl rfl
      · exact shF [3,2] 0 (by walk_at "look") (by walk_at "look") (by walk_at "free") rfl rfl rfl
      · exact shF [1,2] 1 (by walk_at "look") (by walk_at "look") (by walk_at "free") rfl rfl rfl
      · exact shF [2] 2 (by walk_at "look") (by walk_at "look") (by walk_at "free") rfl rfl rfl
      · exact shF [4] 0 (by walk_at "look") (by walk_at "look") (by walk_at "free") rfl rfl rfl
      · exact shF [2,2,2] 0 (by walk_at "look") (by walk_at "look") (by walk_at "free") rfl rfl rfl
      · exact shF [3,3] 0 (by walk_at "look") (by walk_at "look") (by walk_at "free") rfl rfl rfl
      · exact shF [3] 1 (by walk_at "look") (by walk_at "look") (by walk_at "free") rfl rfl rfl
    have hc0 : H lc = none := by walk_at "free"
    have SS : Same H Hc := by walk_at "same"
    repeat walk_at "h"
    refine ⟨p, lc, cs, n, rfl, hP.same SS, by omega, (hP.ne hc0).symm, .of ecs, by omega, by omega, fun v H2 hv P2 B2 => ?_⟩
    obtain ⟨t, s', ns, l, rfl, s0, et, es, h1, h3, hk, hl, hp⟩ := all v hv
    exact k t s' H2 ns l (SS.but.trans B2) P2 s0 (B2 _ _ (fun z => by obtain ⟨_, e⟩ := (hP.same SS).some; rw [z, e] at et; cases et) et) (B2 _ _ (hP.ne s0).symm es) h1 h3 hk hl hp
theorem sc__law_text : FnScope ["_law_lore_here", "_law_tale", "_law_name", "_law_rows_here", "_law_row", "_law_load"] ["_law_lore_here"] (defScope s__law_text) := ⟨rfl, rfl, rfl, by decide +kernel, rfl, by decide +kernel, by decide +kernel⟩
theorem ok__law_text (T : Tx K mg) : FnAt P w K mg base CX0 3 (He.ga K "_law_text") ["_law_lore_here"] (spText K) := by
  refine T.f__law_text.f.ok sc__law_text ?_ (fun cdv A outer s H vs Q E hr h => ?_)
  · walk_at "len"
  · obtain ⟨d, F, L, rfl, hL, okL, k⟩ := h
    obtain ⟨ms, ls, xs, ys, fd, fms, fls, ed, ems, hms, els, hls⟩ := hL
    have hsp := okL.spread
    have fin : ∀ n : Nat, n ≤ 1000 → n ≤ sizeLine := fun n h => Nat.le_trans h (by decide)
    have c1 : ("meter " : Str).length = 6 := rfl
    have c2 : ("load " : Str).length = 5 := rfl
    have c3 : (" " : Str).length = 1 := rfl
    have c4 : ("spread " : Str).length = 7 := rfl
    refine ⟨_, (pss_cons (ps_set (i := 1) sc__law_text.nd rfl (.inl rfl) (pe_ifExp (pt_cmpR op_gt (pe_dget (hu_of hr) (pv 0) pe_str (fun _ _ => rfl)) pe_int (nomark _)) (pe_lst (pa_cons (pe_op op_add_str pe_str (pe_callTy cr_strI rfl T.b_str (by decide +kernel) (pa_cons (pe_dget (hu_of hr) (pv 0) pe_str (fun _ _ => rfl)) pa_nil))) pa_nil)) (pe_lst pa_nil)))
      (pss_cons (ps_for PassesOwn.never rfl (pi_list (pe_dget (hu_of hr) (pv 0) pe_str (fun _ _ => rfl))) (pg_tup rfl (pgs_cons (pg_name (i := 2) sc__law_text.nd rfl (.inl rfl)) (pgs_cons (pg_name (i := 3) sc__law_text.nd rfl (.inl rfl)) pgs_nil))) (pss_cons (ps_expr (pe_bm PySem.F.plainAttrs_list PySem.F.slot_list_append PySem.F.type_list_append mt_append (pv 1) (pa_cons (pe_op op_add_str pe_str (pv 2)) pa_nil)))
      (pss_one (ps_expr (pe_bm PySem.F.plainAttrs_list PySem.F.slot_list_extend PySem.F.type_list_extend mt_extend (pv 1) (pa_cons (pe_lc (own := [("_law_row", 4)]) rfl sc__law_text.nd (pi_list (pv 3)) (blkOk_by (own := [("_law_row", 4)]) (N := ["_law_lore_here", "_law_tale", "_law_name", "_law_rows_here", "_law_row", "_law_load"]) (sc := defScope s__law_text) (by decide +kernel)) (fun _ _ _ _ _ => (pg_name (i := 4) sc__law_text.nd rfl (.inl rfl))) (fun _ _ _ _ _ => pts_nil) (fun _ _ _ _ _ => (pe_fn T.f__law_row_line (ok__law_row_line T) (hr.mono (by decide)) (pa_cons (pv 4) pa_nil)))) pa_nil))))))
      (pss_one (ps_ret (pe_bm PySem.F.plainAttrs_str PySem.F.slot_str_join PySem.F.type_str_join mt_joinN pe_str (pa_cons (pe_op op_cat (pv 1) (pe_lc (own := [("_law_name", 2), ("_law_load", 5)]) rfl sc__law_text.nd (pi_list (pe_dget (hu_of hr) (pv 0) pe_str (fun _ _ => rfl))) (blkOk_by (own := [("_law_name", 2), ("_law_load", 5)]) (N := ["_law_lore_here", "_law_tale", "_law_name", "_law_rows_here", "_law_row", "_law_load"]) (sc := defScope s__law_text) (by decide +kernel)) (fun _ _ _ _ _ => (pg_tupK (K := K) (n := 2) rfl rfl (pgs_cons (pg_name (i := 2) sc__law_text.nd rfl (.inl rfl)) (pgs_cons (pg_name (i := 5) sc__law_text.nd rfl (.inl rfl)) pgs_nil)))) (fun _ _ _ _ _ => pts_nil) (fun _ _ _ _ _ => (pe_op op_add_str (pe_op op_add_str (pe_op op_add_str pe_str (pv 2)) pe_str) (pe_fn T.f__law_ratio_text (ok__law_ratio_text T) (hr.mono (by decide)) (pa_cons (pv 5) pa_nil)))))) pa_nil)))))), ?_⟩
    refine My.i_go (σ' := [some _, none, none, none, none, none]) rfl ?_
    repeat walk_at "h"
    refine i_joinHp (fun v H' => Same H H' ∧ ∃ a, v = .ref a ∧ H a = none ∧ H' a = some (.lst ((spreadLines L.spread).map V.str))) (fun c Q' hQ => ?_) (fun c Q' hQ => ?_) ?_
    · have c : 0 < L.spread := by have := of_decide_eq_true c; omega
      repeat walk_at "h"
      refine i_strI (Nat.lt_of_lt_of_le (show L.spread < 2 ^ 5 by omega) (Nat.pow_le_pow_right (by decide) (by decide))) ?_
      have := nS_len (n := L.spread) (k := 2) (by decide) (by omega)
      refine ⟨_, _, rfl, rfl, fin _ (by omega), ?_⟩
      repeat walk_at "h"
      rename_i a H1 S1 a0 ea
      exact hQ _ _ ⟨S1, a, rfl, a0, by rw [ea]; unfold spreadLines; rw [if_pos c, ← spreadLine_eq]; rfl⟩
    · have c : L.spread = 0 := by have := of_decide_eq_false c; omega
      repeat walk_at "h"
      rename_i a H1 S1 a0 ea
      exact hQ _ _ ⟨S1, a, rfl, a0, by rw [ea]; unfold spreadLines; rw [if_neg (by omega)]; rfl⟩
    · rintro v H1 ⟨S1, tl, rfl, tl0, etl⟩
      have ed1 := S1 _ _ ed
      repeat walk_at "h"
      refine forq_list (xs := xs) (fun i σ' H' => ∃ (w2 w3 w4 w5 : Option V), σ' = [some (.ref d), some (.ref tl), w2, w3, w4, w5] ∧ Same H H' ∧ H' tl = some (.lst ((spreadLines L.spread ++ (L.meters.take i).flatMap meterLines).map V.str))) ⟨none, none, none, none, rfl, S1, by rw [etl, List.take_zero]; simp⟩ (fun i σ' H' _ ⟨_, _, _, _, _, S, _⟩ => .of (S _ _ ems)) ?_ ?_
      · rintro i x σ' H2 hx ⟨w2, w3, w4, w5, rfl, S2, e2⟩
        obtain ⟨m, hm, hmt⟩ := L2.paired_get hms hx
        obtain ⟨a, b, rws, rfl, fb, hat0, hb0, hrw0⟩ := hmt
        have hat := S2.seqT hat0
        have hmm := List.mem_of_getElem? hm
        have hnm := (okL.mn m hmm).hi
        obtain ⟨_, hr4, hro⟩ := okL.rows m hmm
        repeat walk_at "h"
        refine ⟨_, _, rfl, rfl, fin _ (by omega), ?_⟩
        repeat walk_at "h"
        have hl2 : ((spreadLines L.spread ++ (L.meters.take i).flatMap meterLines).map V.str).length ≤ 18 := by
          have := okL.few
          unfold lines at this
          have e : L.meters.flatMap meterLines = (L.meters.take i).flatMap meterLines ++ (L.meters.drop i).flatMap meterLines := by rw [← List.flatMap_append, List.take_append_drop]
          rw [e] at this
          simp only [List.length_append, List.length_map] at this ⊢
          omega
        refine i_app e2 (Nat.lt_of_le_of_lt hl2 (by decide)) fun H3 B3 e3 => ?_
        have S03 : Same H H3 := Same.ext S2 tl0 B3
        have hb3 := S03 _ _ hb0
        repeat walk_at "h"
        refine lcq_list (xs := rws) (fun A j H' acc => H3 A = none ∧ Same H3 H' ∧ H' A = some (.lst acc) ∧ acc = ((m.2.take j).map rowLine).map V.str) (fun A H' S hA e => ⟨hA, S, e, rfl⟩) (fun A j H' acc _ ⟨_, S, _⟩ => .of (S _ _ hb3)) ?_ ?_
        · rintro A j y H4 acc hy hal _ ⟨hA, S4, eA, rfl⟩
          obtain ⟨dy, hdy, hyd⟩ := dpAll_get (hrw0.same (S03.trans S4)) hy
          rw [List.getElem?_map] at hdy
          obtain ⟨r, hr, rfl⟩ := Option.map_eq_some_iff.mp hdy
          obtain ⟨ah, rok⟩ := hro.mem (List.mem_of_getElem? hr)
          obtain ⟨ar, _, _, _, _, rfl, _⟩ := row_dp hyd
          have hj4 : j < 4 := by have := (List.getElem?_eq_some_iff.mp hr).1; omega
          repeat walk_at "h"
          refine ⟨rfl, ?_⟩
          repeat walk_at "h"
          refine ⟨ar, r, ah, rfl, hyd, rok, ?_⟩
          refine turn_end eA hal (by omega) fun H5 B5 e5 => ?_
          refine ⟨hA, Same.ext S4 hA B5, e5, ?_⟩
          rw [List.take_add_one, hr, List.map_append, List.map_append]
          rfl
        · rintro A H4 acc hal _ ⟨hA, S4, eA, rfl⟩
          have hrl : rws.length = m.2.length := by have := dpAll_len hrw0; rwa [List.length_map] at this
          rw [hrl, List.take_length] at eA
          have ntA : tl ≠ A := ne_of_none e3 hA
          have e4 := S4 _ _ e3
          repeat walk_at "h"
          refine i_extL e4 eA ?_ fun H5 B5 e5 => ?_
          · have h4 : ((m.2.map rowLine).map V.str).length = m.2.length := by rw [List.length_map, List.length_map]
            rw [List.length_append, h4, List.length_singleton]
            exact fin _ (by omega)
          · refine ⟨_, _, _, _, rfl, Same.ext (S03.trans S4) tl0 B5, ?_⟩
            rw [e5, List.take_add_one, hm, List.flatMap_append]
            show some (HO.lst _) = some (HO.lst _)
            rw [meterLine_told]
            simp only [List.map_append, List.append_assoc, Option.toList_some, List.flatMap_cons, List.flatMap_nil, List.append_nil]
            unfold meterLines
            simp only [List.map_cons, List.cons_append, List.nil_append]
      · rintro σ' H2 ⟨w2, w3, w4, w5, rfl, S2, e2⟩
        have hxl : xs.length = L.meters.length := Paired.length hms
        rw [hxl, List.take_length] at e2
        have ed2 := S2 _ _ ed
        have els2 := S2 _ _ els
        repeat walk_at "h"
        refine lcq_list (xs := ys) (fun A j H' acc => H2 A = none ∧ Same H2 H' ∧ H' A = some (.lst acc) ∧ acc = ((L.loads.take j).map loadLine).map V.str) (fun A H' S hA e => ⟨hA, S, e, rfl⟩) (fun A j H' acc _ ⟨_, S, _⟩ => .of (S _ _ els2)) ?_ ?_
        · rintro A j y H4 acc hy hal _ ⟨hA, S4, eA, rfl⟩
          obtain ⟨dy, hdy, hyd⟩ := dpAll_get (hls.same (S2.trans S4)) hy
          rw [List.getElem?_map] at hdy
          obtain ⟨l, hl, rfl⟩ := Option.map_eq_some_iff.mp hdy
          obtain ⟨nok, qok⟩ := okL.ln l (List.mem_of_getElem? hl)
          obtain ⟨al, g, rfl, hal2, hg⟩ := load_dp hyd
          obtain ⟨ag, rfl, hag⟩ := rat_dp hg
          have hj4 : j < 2 := by have := (List.getElem?_eq_some_iff.mp hl).1; have := okL.l2; omega
          have b1 := nok.hi
          have b2 := rT_len qok
          repeat walk_at "h"
          refine ⟨rfl, ?_⟩
          repeat walk_at "h"
          refine ⟨_, _, rfl, rfl, fin _ (by omega), ?_⟩
          repeat walk_at "h"
          refine ⟨_, _, rfl, rfl, fin _ (by simp only [Str.length_append]; omega), ?_⟩
          repeat walk_at "h"
          refine ⟨ag, l.2, rfl, hag, qok, ?_⟩
          refine ⟨_, _, rfl, rfl, fin _ (by simp only [Str.length_append]; omega), ?_⟩
          refine turn_end eA hal (by omega) fun H5 B5 e5 => ?_
          refine ⟨hA, Same.ext S4 hA B5, e5, ?_⟩
          rw [List.take_add_one, hl, List.map_append, List.map_append, loadLine_told]
          rfl
        · rintro A H4 acc hal _ ⟨hA, S4, eA, rfl⟩
          have hyl : ys.length = L.loads.length := by have := dpAll_len hls; rwa [List.length_map] at this
          rw [hyl, List.take_length] at eA
          have e4 := S4 _ _ e2
          repeat walk_at "h"
          refine i_catL e4 eA ?_ fun c H5 S5 c0 ec => ?_
          · have := okL.few
            unfold lines at this
            simp only [List.length_append, List.length_map] at this ⊢
            exact fin _ (by omega)
          · have ec : H5 c = some (.lst ((lines L).map V.str)) := by rw [ec]; unfold lines; simp only [List.map_append, List.append_assoc]
            repeat walk_at "h"
            refine i_join' (.of ec) ?_ ?_
            · have := okL.few
              have hle : ((lines L).map (·.length)).sum ≤ 120 * (lines L).length := by
                have := okL.le
                generalize lines L = ws at this
                induction ws with
                | nil => exact Nat.le_refl _
                | cons w ws ih =>
                  have h1 := this w (List.mem_cons_self)
                  have h2 := ih fun x hx => this x (List.mem_cons_of_mem _ hx)
                  simp only [List.map_cons, List.sum_cons, List.length_cons]
                  omega
              have e1 : ("\n" : Str).length = 1 := rfl
              rw [e1]
              omega
            · exact k H5 ((S2.trans S4).trans S5)
theorem sc__law_rows : FnScope ["_law_lore_here", "_law_setting", "_law_found", "_law_name", "_law_rows_here", "_law_here", "_law_row"] ["_law_lore_here", "_law_setting"] (defScope s__law_rows) := ⟨rfl, rfl, rfl, by decide +kernel, rfl, by decide +kernel, by decide +kernel⟩
theorem ok__law_rows (T : Tx K mg) : FnAt P w K mg base CX0 3 (He.ga K "_law_rows") ["_law_lore_here", "_law_setting"] (spRowsL K) := by
  refine T.f__law_rows.f.ok sc__law_rows ?_ (fun cdv A outer s H vs Q E hr h => ?_)
  · walk_at "len"
  · obtain ⟨d, F, L, x, s', rfl, hL, okL, hx, hs, k⟩ := h
    obtain ⟨ms, ls, xs, ys, fd, fms, fls, ed, ems, hms, els, hls⟩ := hL
    obtain ⟨a, vs, rfl, ha, hvs⟩ := dp_tup hx
    obtain ⟨v1, vs, rfl, hv1, hvs⟩ := dpAll_cons hvs
    obtain ⟨v2, vs, rfl, hv2, hvs⟩ := dpAll_cons hvs
    cases dpAll_nil hvs
    obtain ⟨a1, rfl, ha1⟩ := names_dp hv1
    have hxl : xs.length = L.meters.length := Paired.length hms
    have hm3 := okL.m3
    refine ⟨_, (pss_cons (ps_set (i := 2) sc__law_rows.nd rfl (.inl rfl) (pe_lst pa_nil))
      (pss_cons (ps_for PassesOwn.never rfl (pi_zipX rfl T.b_zip (pa_cons (pe_dget (hu_of hr) (pv 0) pe_str (fun _ _ => rfl)) (pa_cons (pe_ix ix_seq (pv 1) pe_int (fun _ _ => rfl)) pa_nil))) (pg_tup rfl (pgs_cons (pg_tup rfl (pgs_cons (pg_name (i := 3) sc__law_rows.nd rfl (.inl rfl)) (pgs_cons (pg_name (i := 4) sc__law_rows.nd rfl (.inl rfl)) pgs_nil))) (pgs_cons (pg_name (i := 5) sc__law_rows.nd rfl (.inr rfl)) pgs_nil))) (pss_one (ps_expr (pe_bm PySem.F.plainAttrs_list PySem.F.slot_list_extend PySem.F.type_list_extend mt_extend (pv 2) (pa_cons (pe_lc (own := [("_law_row", 6)]) rfl sc__law_rows.nd (pi_list (pv 4)) (blkOk_by (own := [("_law_row", 6)]) (N := ["_law_lore_here", "_law_setting", "_law_found", "_law_name", "_law_rows_here", "_law_here", "_law_row"]) (sc := defScope s__law_rows) (by decide +kernel)) (fun _ _ _ _ _ => (pg_name (i := 6) sc__law_rows.nd rfl (.inl rfl))) (fun _ _ _ _ _ => (pts_one (pt_cmpR op_eq (pe_ix (ix_seqK (K := K) rfl) (pv 6) pe_int (fun _ _ => rfl)) (pv 5) (nomark _)))) (fun _ _ _ _ _ => (pv 6))) pa_nil)))))
      (pss_one (ps_ret (pv 2))))), ?_⟩
    refine My.i_go (σ' := [some _, some _, none, none, none, none, none]) rfl ?_
    repeat walk_at "h"
    rename_i fo H1 S1 fo0 efo
    have ha01 := S1.seqT ha
    have ha11 := S1.seqT ha1
    refine i_zipX ?_
    repeat walk_at "h"
    refine i_zipXv false true (.of (S1 _ _ ems)) ha11 ?_
    refine forq_zipX (xs := xs) (ys := s'.1.map V.str) (by rw [hxl, List.length_map, hs.len]) (fun i σ' H' => ∃ (w3 w4 w5 w6 : Option V) (zs : List V), σ' = [some (.ref d), some (.ref a), some (.ref fo), w3, w4, w5, w6] ∧ But fo H1 H' ∧ H' fo = some (.lst zs) ∧ DpAll K H' zs ((rowsTo L s' i).map rowD) ∧ zs.length ≤ 4 * i) ⟨none, none, none, none, [], rfl, .refl _, efo, .nil, Nat.zero_le _⟩ ?_ ?_ ?_
    · rintro i σ' H' ⟨w3, w4, w5, w6, zs, rfl, B, e, hz, _⟩
      exact ⟨.of (B _ _ (ne_of_none ems fo0) (S1 _ _ ems)), seqT_but efo B ha11⟩
    · rintro i x y T1 σ' H' H3 hx1 hy1 ⟨w3, w4, w5, w6, zs, rfl, B, e, hz, hzl⟩ hT0 S3 eT
      rw [List.getElem?_map] at hy1
      obtain ⟨n, hn, rfl⟩ := Option.map_eq_some_iff.mp hy1
      obtain ⟨m, hm, hmt⟩ := L2.paired_get hms hx1
      obtain ⟨a9, b9, rws, rfl, fb, hat, hb, hrw⟩ := hmt
      have hmm := List.mem_of_getElem? hm
      have hi3 : i < 3 := by have := (List.getElem?_eq_some_iff.mp hm).1; omega
      obtain ⟨hne, hr4, hro⟩ := okL.rows m hmm
      have SH : Same H H3 := (Same.ext S1 fo0 B).trans S3
      have hat3 := SH.seqT hat
      have hb3 := SH _ _ hb
      have hrw3 := hrw.same SH
      have efo3 := S3 _ _ e
      have hrl : rws.length = m.2.length := by have := dpAll_len hrw; rwa [List.length_map] at this
      repeat walk_at "h"
      refine lcq_n (n := rws.length) (fun A q H' acc => H3 A = none ∧ Same H3 H' ∧ H' A = some (.lst acc) ∧ DpAll K H' acc (((m.2.take q).filter fun r => decide (r.n = n)).map rowD)) (fun A H' S hA e => ⟨hA, S, e, .nil⟩) (fun A q H' acc hi ⟨_, S, _⟩ => ⟨_, _, .of (S _ _ hb3), List.getElem?_eq_getElem hi⟩) (fun A H' acc ⟨_, S, _⟩ => ⟨_, .of (S _ _ hb3), Nat.le_refl _⟩) ?_ ?_
      · rintro A q y H4 H4' acc hq ⟨hA, S4, eA, hacc⟩ ⟨rfl, hy⟩
        have hy := hy _ (.of (S4 _ _ hb3))
        obtain ⟨dy, hdy, hyd⟩ := dpAll_get (hrw3.same S4) hy
        rw [List.getElem?_map] at hdy
        obtain ⟨r2, hr2, rfl⟩ := Option.map_eq_some_iff.mp hdy
        obtain ⟨ar, g, u, d', t2, rfl, hc, _, _, _, _⟩ := row_dp hyd
        have step := filt_succ (n := n) hr2
        have hal : acc.length ≤ 4 := by
          have := dpAll_len hacc
          rw [List.length_map] at this
          have := List.length_filter_le (fun r : My.Row => decide (r.n = n)) (m.2.take q)
          rw [List.length_take] at this
          omega
        repeat walk_at "h"
        refine ⟨rfl, ?_⟩
        repeat walk_at "h"
        refine ite2 (fun c => ?_) (fun c => ?_)
        · have c : r2.n = n := of_decide_eq_true c
          rw [if_pos c] at step
          repeat walk_at "h"
          refine turnC_end eA (by omega) fun H5 B5 e5 => ⟨hA, Same.ext S4 hA B5, e5, ?_⟩
          rw [step, List.map_append]
          exact dpAll_snoc (dpAll_butN eA trivial B5 (noL_map noL_row _) hacc) (dp_butN eA trivial B5 (noL_row r2) hyd)
        · have c : ¬ r2.n = n := fun z => c (decide_eq_true z)
          rw [if_neg c, List.append_nil] at step
          exact ⟨_, hA, S4, eA, by rw [step]; exact hacc⟩
      · rintro A H4 acc ⟨hA, S4, eA, hacc⟩
        rw [hrl, List.take_length] at hacc
        have nlA : fo ≠ A := ne_of_none efo3 hA
        have hal : acc.length ≤ 4 := by
          have := dpAll_len hacc
          rw [List.length_map] at this
          have := List.length_filter_le (fun r : My.Row => decide (r.n = n)) m.2
          omega
        repeat walk_at "h"
        refine i_extL (S4 _ _ efo3) eA (Nat.le_trans (show zs.length + acc.length ≤ 20 by omega) (by decide)) fun H9 B9 e9 => ?_
        refine ⟨_, _, _, _, _, rfl, (B.trans (S3.trans S4).but).trans B9, e9, ?_, by rw [List.length_append]; omega⟩
        rw [rowsTo_succ hm hn, List.map_append]
        exact dpAll_app (dpAll_butN (S4 _ _ efo3) trivial B9 (noL_map noL_row _) ((hz.same S3).same S4)) (dpAll_butN (S4 _ _ efo3) trivial B9 (noL_map noL_row _) hacc)
    · rintro σ' H' ⟨w3, w4, w5, w6, zs, rfl, B, e, hz, hzl⟩
      rw [hxl, rowsTo_all hs.len] at hz
      repeat walk_at "h"
      exact k fo H' zs (Same.ext S1 fo0 B) fo0 e hz
theorem sc_Bench___eq__ : FnScope ["self", "other"] ["self", "other"] (defScope s_Bench___eq__) := ⟨rfl, rfl, rfl, by decide +kernel, rfl, by decide +kernel, by decide +kernel⟩
theorem ok_Bench___eq__ (T : Tx K mg) : FnAt P w K mg base CX0 3 (He.ma K (He.ga K "Bench") "__eq__") ["self", "other"] (spBEq K (He.ga K "Bench")) := by
  refine T.o_Bench___eq__.f.ok sc_Bench___eq__ ?_ (fun cdv A outer s H vs Q E hr h => ?_)
  · walk_at "len"
  · obtain ⟨a, L, x, rfl, hA, k⟩ := h
    obtain ⟨dx, rd, ld, st, kvs, lks, ea, _⟩ := id hA
    have hc := T.c_Bench
    refine ⟨_, (pss_one (ps_ret (pe_and (pe_callB call_isi rfl T.b_isinstance (by decide +kernel) (pa_cons (pv 1) (pa_cons (pe_glob (v := .ref _) rfl T.k_Bench.m rfl) pa_nil))) (pe_one (pe_cmpR op_eq (pe_pr T.c_Bench T.p_Bench_text (ok_Bench_text T) (hr.mono (by decide)) (pv 0)) (pe_pr T.c_Bench T.p_Bench_text (ok_Bench_text T) (hr.mono (by decide)) (pv 1)) (nomark _)))))), ?_⟩
    refine My.i_go (σ' := [some _, some _]) rfl ?_
    repeat walk_at "h"
    rcases k with ⟨b, M, rfl, hB, k⟩ | ⟨n, ty, e, k⟩
    · obtain ⟨dy, _, _, _, _, _, eb, _⟩ := id hB
      refine i_isiS eb T.c_Bench T.y_Bench ?_
      repeat walk_at "h"
      refine ⟨a, dx, _, rfl, ea, a, L, rfl, hA, ?_⟩
      repeat walk_at "h"
      refine ⟨b, dy, _, rfl, eb, b, M, rfl, hB, ?_⟩
      repeat walk_at "h"
      exact k
    · refine i_isiC ty e ?_
      repeat walk_at "h"
      exact k
theorem sc_Source___init__ : FnScope ["self", "volts", "ohms"] ["self", "volts", "ohms"] (defScope s_Source___init__) := ⟨rfl, rfl, rfl, by decide +kernel, rfl, by decide +kernel, by decide +kernel⟩
theorem ok_Source___init__ (T : Tx K mg) : FnAt P w K mg base CX0 3 (He.ma K (He.ga K "Source") "__init__") ["self", "volts", "ohms"] (spSrcInit K (He.ga K "Source")) := by
  refine T.d_Source___init__.f.ok sc_Source___init__ ?_ (fun cdv A outer s H vs Q E hr h => ?_)
  · walk_at "len"
  · obtain ⟨x, dx, a, b, v, r, rfl, hx, ha, hb, hv, hr0, k⟩ := h
    have hc := T.c_Source; have n1 := T.a_Source__volts; have n2 := T.a_Source__ohms
    refine ⟨_, (pss_cons (ps_if (pt_not (pt_val (pe_fn T.f_is_ratio (ok_is_ratio T) (hr.mono (by decide)) (pa_cons (pv 1) pa_nil)))) (pss_one ps_never) pss_nil)
      (pss_cons (ps_if (pt_not (pt_val (pe_fn T.f_is_ratio (ok_is_ratio T) (hr.mono (by decide)) (pa_cons (pv 2) pa_nil)))) (pss_one ps_never) pss_nil)
      (pss_cons (ps_fld (pv 0) (pv 1) rfl)
      (pss_one (ps_fld (pv 0) (pv 2) rfl))))), ?_⟩
    refine My.i_go (σ' := [some _, some _, some _]) rfl ?_
    repeat walk_at "h"
    refine ⟨_, _, rfl, ha, hv, ?_⟩
    repeat walk_at "h"
    refine ⟨_, _, rfl, hb, hr0, ?_⟩
    repeat walk_at "h"
    refine ⟨x, _, dx, [], rfl, hx, hc, n1, by show 0 < 1000; decide, ?_⟩
    repeat walk_at "h"
    refine ⟨x, _, dx, _, rfl, upd_same, hc, n2, by show 1 < 1000; decide, ?_⟩
    rw [upd_upd, srcF_eq]
    exact k _ But.upd upd_same
theorem ok_ascending_2 (T : Tx K mg) : FnAt P w K mg base CX0 4 (He.ga K "ascending") ["rows"] (spAsc K 2) := by
  refine T.f_ascending.f.ok sc_ascending ?_ (fun cdv A outer s H vs Q E hr h => ?_)
  · walk_at "len"
  · obtain ⟨a, xs, ds, rfl, hl, hx, nd, hF, h1, h2, k⟩ := h
    have hxl := dpAll_len hx
    refine ⟨_, (pss_cons (ps_if (pt_cmpR op_lt (pe_callB cr_len rfl T.b_len (by decide +kernel) (pa_cons (pv 0) pa_nil)) pe_int (nomark _)) (pss_one (ps_ret (pe_callTy cr_tupN rfl T.b_tuple (by decide +kernel) (pa_cons (pv 0) pa_nil)))) pss_nil)
      (pss_cons (ps_set (i := 1) sc_ascending.nd rfl (.inl rfl) (pe_op op_fdivW (pe_callB cr_len rfl T.b_len (by decide +kernel) (pa_cons (pv 0) pa_nil)) pe_int))
      (pss_one (ps_ret (pe_fn T.f_merged (ok_merged T) (hr.mono (by decide)) (pa_cons (pe_fn T.f_ascending (ok_ascending_1 T) (hr.mono (by decide)) (pa_cons (pe_slice sl_list (pv 0) po_none (po_some (pv 1))) pa_nil)) (pa_cons (pe_fn T.f_ascending (ok_ascending_1 T) (hr.mono (by decide)) (pa_cons (pe_slice sl_list (pv 0) (po_some (pv 1)) po_none) pa_nil)) pa_nil))))))), ?_⟩
    refine My.i_go (σ' := [some _, none]) rfl ?_
    repeat walk_at "h"
    refine i_lenL hl ?_
    repeat walk_at "h"
    refine ite2 (fun hs => ?_) (fun hs => ?_)
    · have hs := of_decide_eq_true hs
      repeat walk_at "h"
      refine i_tupN hl fun p H1 S1 hp e1 => k p H1 S1 ?_
      rw [srt_few (by omega)]
      exact .tup (.of e1) (hx.same S1)
    have hs : ¬ ((xs.length : Int) < 2) := fun z => hs (decide_eq_true z)
    have hs2 : ¬ ds.length < 2 := by omega
    rw [srt_step hs2] at k
    have hp2 := pow2 1
    repeat walk_at "h"
    refine i_lenL hl ?_
    repeat walk_at "h"
    have eh : (xs.length : Int) / 2 = ((ds.length / 2 : Nat) : Int) := by omega
    rw [eh]
    refine i_slL hl fun p1 H1 S1 hp1 e1 => ?_
    rw [cut_to (by omega)] at e1
    repeat walk_at "h"
    refine ⟨p1, _, ds.take (ds.length / 2), rfl, .of e1, dpAll_take _ (hx.same S1), (noLAll_iff _).mpr fun d hd => (noLAll_iff ds).mp nd d (List.mem_of_mem_take hd), hF.sub fun d hd => List.mem_of_mem_take hd, by rw [List.length_take]; omega, by rw [List.length_take]; omega, fun q2 H2 S2 d2 => ?_⟩
    repeat walk_at "h"
    refine i_slL (S2.seq (S1.seq hl)) fun p3 H3 S3 hp3 e3 => ?_
    rw [cut_from (by omega)] at e3
    repeat walk_at "h"
    refine ⟨p3, _, ds.drop (ds.length / 2), rfl, .of e3, dpAll_drop _ (hx.same ((S1.trans S2).trans S3)), (noLAll_iff _).mpr fun d hd => (noLAll_iff ds).mp nd d (List.mem_of_mem_drop hd), hF.sub fun d hd => List.mem_of_mem_drop hd, by rw [List.length_drop]; omega, by rw [List.length_drop]; omega, fun q4 H4 S4 d4 => ?_⟩
    repeat walk_at "h"
    have m2 : ∀ d ∈ srt 1 (ds.take (ds.length / 2)), d ∈ ds := fun d hd => List.mem_of_mem_take (srt_mem _ _ d hd)
    have m4 : ∀ d ∈ srt 1 (ds.drop (ds.length / 2)), d ∈ ds := fun d hd => List.mem_of_mem_drop (srt_mem _ _ d hd)
    refine ⟨q2, q4, _, _, rfl, (d2.same S3).same S4, d4, (noLAll_iff _).mpr fun d hd => (noLAll_iff ds).mp nd d (m2 d hd), (noLAll_iff _).mpr fun d hd => (noLAll_iff ds).mp nd d (m4 d hd), hF.sub fun d hd => ?_, by rw [srt_len, srt_len, List.length_take, List.length_drop]; omega, fun q5 H5 S5 d5 => k q5 H5 ((((S1.trans S2).trans S3).trans S4).trans S5) d5⟩
    rcases List.mem_append.mp hd with hd | hd
    · exact m2 d hd
    · exact m4 d hd
theorem sc_ranges_of : FnScope ["bench", "setting", "found", "meter", "name", "row"] ["bench", "setting"] (defScope s_ranges_of) := ⟨rfl, rfl, rfl, by decide +kernel, rfl, by decide +kernel, by decide +kernel⟩
theorem ok_ranges_of (T : Tx K mg) : FnAt P w K mg base CX0 4 (He.ga K "ranges_of") ["bench", "setting"] (spRangesOf K (He.ga K "Bench")) := by
  refine T.f_ranges_of.f.ok sc_ranges_of ?_ (fun cdv A outer s H vs Q E hr h => ?_)
  · walk_at "len"
  · obtain ⟨b, L, x, s', rfl, hB, okL, hx, hs, k⟩ := h
    obtain ⟨a, xs, rfl, ha, hxs⟩ := dp_tup hx
    obtain ⟨v1, xs, rfl, hv1, hxs⟩ := dpAll_cons hxs
    obtain ⟨v2, xs, rfl, hv2, hxs⟩ := dpAll_cons hxs
    cases dpAll_nil hxs
    obtain ⟨a1, rfl, ha1⟩ := names_dp hv1
    refine ⟨_, (pss_cons (ps_set (i := 2) sc_ranges_of.nd rfl (.inl rfl) (pe_lst pa_nil))
      (pss_cons (ps_for PassesOwn.never rfl (pi_zipX rfl T.b_zip (pa_cons (pe_pr T.c_Bench T.p_Bench_meters (ok_Bench_meters T) (hr.mono (by decide)) (pv 0)) (pa_cons (pe_ix ix_seq (pv 1) pe_int (fun _ _ => rfl)) pa_nil))) (pg_tup rfl (pgs_cons (pg_name (i := 3) sc_ranges_of.nd rfl (.inl rfl)) (pgs_cons (pg_name (i := 4) sc_ranges_of.nd rfl (.inr rfl)) pgs_nil))) (pss_one (ps_expr (pe_bm PySem.F.plainAttrs_list PySem.F.slot_list_extend PySem.F.type_list_extend mt_extend (pv 2) (pa_cons (pe_lc (own := [("row", 5)]) rfl sc_ranges_of.nd (pi_tup (pe_getOwn T.d_Bench___getitem__ (ok_Bench___getitem__ T) (hr.mono (by decide)) (pv 0) (pv 3) (hfn := T.g_Bench))) (blkOk_by (own := [("row", 5)]) (N := ["bench", "setting", "found", "meter", "name", "row"]) (sc := defScope s_ranges_of) (by decide +kernel)) (fun _ _ _ _ _ => (pg_name (i := 5) sc_ranges_of.nd rfl (.inl rfl))) (fun _ _ _ _ _ => (pts_one (pt_cmpR op_eq (pe_ix (ix_seqK (K := K) rfl) (pv 5) pe_int (fun _ _ => rfl)) (pv 4) (nomark _)))) (fun _ _ _ _ _ => (pv 5))) pa_nil)))))
      (pss_one (ps_ret (pv 2))))), ?_⟩
    refine My.i_go (σ' := [some _, some _, none, none, none, none]) rfl ?_
    repeat walk_at "h"
    rename_i fd H1 S1 fd0 efd
    refine i_zipX ?_
    repeat walk_at "h"
    refine i_bNamesF (hB.same S1) ?_ fun p2 H2 S2 p20 e2 => ?_
    · rw [List.length_map]; have := okL.m3; omega
    have S02 := S1.trans S2
    have ha02 := S02.seqT ha
    repeat walk_at "h"
    have ha12 := S02.seqT ha1
    refine i_zipXv true true e2.sq ha12 ?_
    have hB2 := hB.same S02
    have hm3 := okL.m3
    refine forq_zipX (xs := (L.meters.map (·.1)).map V.str) (ys := s'.1.map V.str) (by rw [List.length_map, List.length_map, List.length_map, hs.len]) (fun i σ' H' => ∃ (w3 w4 w5 : Option V) (zs : List V), σ' = [some (.ref b), some (.ref a), some (.ref fd), w3, w4, w5] ∧ But fd H2 H' ∧ H' fd = some (.lst zs) ∧ DpAll K H' zs ((rowsTo L s' i).map fun r => rowD (lowR L.spread r)) ∧ zs.length ≤ 4 * i) ⟨none, none, none, [], rfl, .refl _, S2 _ _ efd, .nil, Nat.zero_le _⟩ ?_ ?_ ?_
    · rintro i σ' H' ⟨w3, w4, w5, zs, rfl, B, e, hz, _⟩
      exact ⟨seqT_but (S2 _ _ efd) B e2.sq, seqT_but (S2 _ _ efd) B ha12⟩
    · rintro i x y T1 σ' H' H3 hx1 hy1 ⟨w3, w4, w5, zs, rfl, B, e, hz, hzl⟩ hT0 S3 eT
      rw [List.getElem?_map, List.getElem?_map, Option.map_map] at hx1
      rw [List.getElem?_map] at hy1
      obtain ⟨m, hm, rfl⟩ := Option.map_eq_some_iff.mp hx1
      obtain ⟨n, hn, rfl⟩ := Option.map_eq_some_iff.mp hy1
      have hmm := List.mem_of_getElem? hm
      have hi3 : i < 3 := by have := (List.getElem?_eq_some_iff.mp hm).1; omega
      obtain ⟨hne, hr4, hro⟩ := okL.rows m hmm
      have SH : Same H H3 := (Same.ext S02 fd0 B).trans S3
      have hB3 := hB.same SH
      have efd3 := S3 _ _ e
      repeat walk_at "h"
      refine i_bItem hB3 okL.md hmm fun a9 da => ?_
      obtain ⟨a9', ys, ea9, hy9, hys⟩ := dp_tup da
      cases ea9
      have hyl : ys.length = m.2.length := by have := dpAll_len hys; rwa [List.length_map] at this
      repeat walk_at "h"
      refine lcq_n (n := ys.length) (fun A q H' acc => H3 A = none ∧ Same H3 H' ∧ H' A = some (.lst acc) ∧ DpAll K H' acc (((m.2.take q).filter fun r => decide (r.n = n)).map fun r => rowD (lowR L.spread r))) (fun A H' S hA e => ⟨hA, S, e, .nil⟩) (fun A q H' acc hi ⟨_, S, _⟩ => ⟨_, _, S.seqT hy9, List.getElem?_eq_getElem hi⟩) (fun A H' acc ⟨_, S, _⟩ => ⟨_, S.seqT hy9, Nat.le_refl _⟩) ?_ ?_
      · rintro A q y H4 H4' acc hq ⟨hA, S4, eA, hacc⟩ ⟨rfl, hy⟩
        have hy := hy _ (S4.seqT hy9)
        obtain ⟨dy, hdy, hyd⟩ := dpAll_get (hys.same S4) hy
        rw [List.getElem?_map] at hdy
        obtain ⟨r2, hr2, rfl⟩ := Option.map_eq_some_iff.mp hdy
        obtain ⟨ar, g, u, d', t2, rfl, hc, _, _, _, _⟩ := row_dp hyd
        have step := filt_succ (n := n) hr2
        have hal : acc.length ≤ 4 := by
          have := dpAll_len hacc
          rw [List.length_map] at this
          have := List.length_filter_le (fun r : My.Row => decide (r.n = n)) (m.2.take q)
          rw [List.length_take] at this
          omega
        repeat walk_at "h"
        refine ⟨rfl, ?_⟩
        repeat walk_at "h"
        refine ite2 (fun c => ?_) (fun c => ?_)
        · have c : r2.n = n := of_decide_eq_true c
          rw [if_pos c] at step
          repeat walk_at "h"
          refine turnC_end eA (by omega) fun H5 B5 e5 => ⟨hA, Same.ext S4 hA B5, e5, ?_⟩
          rw [step, List.map_append]
          exact dpAll_snoc (dpAll_butN eA trivial B5 (noL_map (noL_low L.spread) _) hacc) (dp_butN eA trivial B5 (noL_low L.spread r2) hyd)
        · have c : ¬ r2.n = n := fun z => c (decide_eq_true z)
          rw [if_neg c, List.append_nil] at step
          exact ⟨_, hA, S4, eA, by rw [step]; exact hacc⟩
      · rintro A H4 acc ⟨hA, S4, eA, hacc⟩
        rw [hyl, List.take_length] at hacc
        have nlA : fd ≠ A := ne_of_none efd3 hA
        have hal : acc.length ≤ 4 := by
          have := dpAll_len hacc
          rw [List.length_map] at this
          have := List.length_filter_le (fun r : My.Row => decide (r.n = n)) m.2
          omega
        repeat walk_at "h"
        refine i_extL (S4 _ _ efd3) eA (Nat.le_trans (show zs.length + acc.length ≤ 20 by omega) (by decide)) fun H9 B9 e9 => ?_
        refine ⟨_, _, _, _, rfl, (B.trans (S3.trans S4).but).trans B9, e9, ?_, by rw [List.length_append]; omega⟩
        rw [rowsTo_succ hm hn, List.map_append]
        exact dpAll_app (dpAll_butN (S4 _ _ efd3) trivial B9 (noL_map (noL_low L.spread) _) ((hz.same S3).same S4)) (dpAll_butN (S4 _ _ efd3) trivial B9 (noL_map (noL_low L.spread) _) hacc)
    · rintro σ' H' ⟨w3, w4, w5, zs, rfl, B, e, hz, hzl⟩
      rw [List.length_map, List.length_map, rowsTo_all hs.len] at hz
      repeat walk_at "h"
      exact k fd H' zs (Same.ext S02 fd0 B) fd0 e hz
theorem sc_setting_behind : FnScope ["bench", "setting", "step", "meter", "way", "ranges", "on", "place", "names", "row", "at"] ["bench", "setting", "step"] (defScope s_setting_behind) := ⟨rfl, rfl, rfl, by decide +kernel, rfl, by decide +kernel, by decide +kernel⟩
theorem ok_setting_behind (T : Tx K mg) : FnAt P w K mg base CX0 4 (He.ga K "setting_behind") ["bench", "setting", "step"] (spBehind K (He.ga K "Bench")) := by
  refine T.f_setting_behind.f.ok sc_setting_behind ?_ (fun cdv A outer s H vs Q E hr h => ?_)
  · walk_at "len"
  · obtain ⟨b, t, L, x, s', i, j, m, r, up, rfl, hB, okL, hx, hs, ht, hm, hr9, hs9, k0, k1⟩ := h
    obtain ⟨a, xs, rfl, ha, hxs⟩ := dp_tup hx
    obtain ⟨v1, xs, rfl, hv1, hxs⟩ := dpAll_cons hxs
    obtain ⟨v2, xs, rfl, hv2, hxs⟩ := dpAll_cons hxs
    cases dpAll_nil hxs
    obtain ⟨a1, rfl, ha1⟩ := names_dp hv1
    have hil : i < L.meters.length := (List.getElem?_eq_some_iff.mp hm).1
    have hmm := List.mem_of_getElem? hm
    obtain ⟨hne, hr4, hro⟩ := okL.rows m hmm
    have hjl : j < m.2.length := (List.getElem?_eq_some_iff.mp hr9).1
    refine ⟨_, (pss_cons (ps_asg (pv 2) (pg_tup rfl (pgs_cons (pg_name (i := 3) sc_setting_behind.nd rfl (.inl rfl)) (pgs_cons (pg_name (i := 4) sc_setting_behind.nd rfl (.inl rfl)) pgs_nil))))
      (pss_cons (ps_asg (pv 1) (pg_tup rfl (pgs_cons (pg_name (i := 5) sc_setting_behind.nd rfl (.inl rfl)) (pgs_cons (pg_name (i := 6) sc_setting_behind.nd rfl (.inl rfl)) pgs_nil))))
      (pss_cons (ps_set (i := 7) sc_setting_behind.nd rfl (.inl rfl) (pe_bmT PySem.F.plainAttrs_tuple PySem.F.slot_tuple_index PySem.F.type_tuple_index mt_tup_index (pe_pr T.c_Bench T.p_Bench_meters (ok_Bench_meters T) (hr.mono (by decide)) (pv 0)) (pa_cons (pv 3) pa_nil)))
      (pss_cons (ps_setLc (i := 8) (own := [("row", 9)]) rfl sc_setting_behind.nd rfl rfl (sw_true rfl rfl rfl (by decide +kernel)) (pi_tup (pe_getOwn T.d_Bench___getitem__ (ok_Bench___getitem__ T) (hr.mono (by decide)) (pv 0) (pv 3) (hfn := T.g_Bench))) (blkOk_by (own := [("row", 9)]) (N := ["bench", "setting", "step", "meter", "way", "ranges", "on", "place", "names", "row", "at"]) (sc := defScope s_setting_behind) (by decide +kernel)) (fun _ _ _ _ _ => (pg_name (i := 9) sc_setting_behind.nd rfl (.inl rfl))) (fun _ _ _ _ _ => pts_nil) (fun _ _ _ _ _ => (pe_ix (ix_seqK (K := K) rfl) (pv 9) pe_int (fun _ _ => rfl))))
      (pss_cons (ps_set (i := 10) sc_setting_behind.nd rfl (.inl rfl) (pe_op op_add (pe_bm PySem.F.plainAttrs_list PySem.F.slot_list_index PySem.F.type_list_index mt_index (pv 8) (pa_cons (pe_ix ix_seq (pv 5) (pv 7) (fun _ _ => rfl)) pa_nil)) (pe_ifExp (pt_cmpR op_eq (pv 4) pe_str (nomark _)) pe_int (pe_un un_neg pe_int))))
      (pss_cons (ps_if (PW.pt (pw_or (pt_cmpR op_lt (pv 10) pe_int (nomark _)) (pw_or1 (pt_cmpR op_eq (pv 10) (pe_callB cr_len rfl T.b_len (by decide +kernel) (pa_cons (pv 8) pa_nil)) (nomark _))))) (pss_one (ps_ret pe_non)) pss_nil)
      (pss_one (ps_ret (pe_tup (pa_cons (pe_tup (StX.pa_star (pe_slice sl_tupA (pv 5) po_none (po_some (pv 7))) (pa_cons (pe_ix ix_seq (pv 8) (pv 10) (fun _ _ => rfl)) (StX.pa_star (pe_slice sl_tupA (pv 5) (po_some (pe_op op_add (pv 7) pe_int)) po_none) pa_nil)))) (pa_cons (pv 6) pa_nil))))))))))), ?_⟩
    refine My.i_go (σ' := [some _, some _, some _, none, none, none, none, none, none, none, none]) rfl ?_
    repeat walk_at "h"
    refine i_bmT ?_
    repeat walk_at "h"
    refine i_bNamesF hB ?_ fun p1 H1 S1 p10 e1 => ?_
    · rw [List.length_map]; have := okL.m3; omega
    have ha11 := S1.seqT ha1
    refine ⟨⟨p1, _, rfl, e1⟩, ?_⟩
    repeat walk_at "h"
    refine ⟨p1, L.meters.map (·.1), m.1, i, rfl, rfl, e1.sq, by rw [List.getElem?_map, hm]; rfl, fun q hq e => ?_, ?_⟩
    · rw [List.getElem?_map] at e
      obtain ⟨m', hm', e⟩ := Option.map_eq_some_iff.mp e
      have h1 := List.getElem?_eq_some_iff.mp hm'
      have h2 := List.getElem?_eq_some_iff.mp hm
      have hnd := okL.md
      have := (List.getElem_inj (h₀ := by rw [List.length_map]; exact h1.1) (h₁ := by rw [List.length_map]; exact h2.1) hnd (i := q) (j := i)).mp (by rw [List.getElem_map, List.getElem_map, h1.2, h2.2]; exact e)
      omega
    have hB1 := hB.same S1
    repeat walk_at "h"
    refine i_bItem hB1 okL.md hmm fun a9 da => ?_
    obtain ⟨a9', ys, ea9, hy9, hys⟩ := dp_tup da
    cases ea9
    have hyl : ys.length = m.2.length := by have := dpAll_len hys; rwa [List.length_map] at this
    repeat walk_at "h"
    refine lcq_tup (xs := ys) (fun A q H' acc => H1 A = none ∧ Same H1 H' ∧ H' A = some (.lst acc) ∧ acc = ((m.2.take q).map (·.n)).map V.str) (fun A H' S hA e => ⟨hA, S, e, rfl⟩) (fun A q H' acc _ ⟨_, S, _⟩ => S.seqT hy9) ?_ ?_
    · rintro A q y H2 acc hy hal _ ⟨hA, S2, eA, rfl⟩
      obtain ⟨dy, hdy, hyd⟩ := dpAll_get (hys.same S2) hy
      rw [List.getElem?_map] at hdy
      obtain ⟨r2, hr2, rfl⟩ := Option.map_eq_some_iff.mp hdy
      obtain ⟨ar, g, u, d', t2, rfl, hc, _, _, _, _⟩ := row_dp hyd
      have hq4 : q < 4 := by have := (List.getElem?_eq_some_iff.mp hr2).1; omega
      repeat walk_at "h"
      refine ⟨rfl, ?_⟩
      repeat walk_at "h"
      refine turn_end eA hal (by omega) fun H5 B5 e5 => ?_
      refine ⟨hA, Same.ext S2 hA B5, e5, ?_⟩
      rw [List.take_add_one, hr2, List.map_append, List.map_append]
      rfl
    rintro A2 H2 acc hal2 _ ⟨hA2, S2, eA2, rfl⟩
    rw [hyl, List.take_length] at eA2
    have ha12 := S2.seqT ha11
    repeat walk_at "h"
    refine i_ixsT ha12 (atI_nat (j := i) (v := .str r.n) (by rw [List.getElem?_map, hs9]; rfl)) ?_
    repeat walk_at "h"
    refine ⟨A2, _, _, j, .str r.n, rfl, rfl, .of eA2, rfl, My.flat_strs _, by rw [List.getElem?_map, List.getElem?_map, hr9]; rfl, eqV_str_self _, fun q z' hq e => ?_, ?_⟩
    · rw [List.getElem?_map, List.getElem?_map] at e
      obtain ⟨nq, hnq, rfl⟩ := Option.map_eq_some_iff.mp e
      obtain ⟨rq, hrq, rfl⟩ := Option.map_eq_some_iff.mp hnq
      refine eqV_str_ne fun e => ?_
      have h1 := List.getElem?_eq_some_iff.mp hrq
      have h2 := List.getElem?_eq_some_iff.mp hr9
      have hnd := (RowsOk.nd hro).1
      have := (List.getElem_inj (h₀ := by rw [List.length_map]; exact h1.1) (h₁ := by rw [List.length_map]; exact h2.1) hnd (i := q) (j := j)).mp (by rw [List.getElem_map, List.getElem_map, h1.2, h2.2]; exact e)
      omega
    repeat walk_at "h"
    have S02 := S1.trans S2
    cases up with
    | true =>
      rw [show wayS true = ("up" : Str) from rfl, decide_eq_true rfl]
      repeat walk_at "h"
      rw [List.length_map, List.length_map]
      refine i_eqI ⟨_, rfl, ?_⟩
      refine ite2 (fun c => ?_) (fun c => ?_)
      · repeat walk_at "h"
        have c := of_decide_eq_true c
        exact k0 (by unfold goes; rw [if_pos rfl, if_neg (by omega)]) H2 S02
      · have c : j + 1 < m.2.length := by have : ¬ ((j : Int) + 1 = (m.2.length : Int)) := fun z => c (decide_eq_true z); omega
        repeat walk_at "h"
        obtain ⟨r', hr'⟩ : ∃ r', m.2[j + 1]? = some r' := ⟨_, List.getElem?_eq_getElem (by omega)⟩
        refine i_slA ha12 fun p3 H3 S3 q3 => ?_
        rw [cut_to (by rw [List.length_map, hs.len]; omega)] at q3
        refine i_starT q3 ?_
        have eA3 := S3 _ _ eA2
        repeat walk_at "h"
        refine i_ixsL (.of eA3) (show atI _ ((j : Int) + 1) = some (.str r'.n) by rw [show ((j : Int) + 1) = ((j + 1 : Nat) : Int) by omega]; exact atI_nat (by rw [List.getElem?_map, List.getElem?_map, hr']; rfl)) ?_
        repeat walk_at "h"
        rw [show ((i : Int) + 1) = ((i + 1 : Nat) : Int) by omega]
        refine i_slA (S3.seqT ha12) fun p4 H4 S4 q4 => ?_
        rw [cut_from (by rw [List.length_map, hs.len]; omega)] at q4
        refine i_starT q4 ?_
        repeat walk_at "h"
        rw [show (s'.1.map V.str).take i ++ V.str r'.n :: ((s'.1.map V.str).drop (i + 1) ++ []) = (s'.1.set i r'.n).map V.str by rw [List.append_nil, List.set_eq_take_append_cons_drop, if_pos (by rw [hs.len]; exact hil), List.map_append, List.map_cons, List.map_take, List.map_drop]]
        refine i_szT (by rw [List.length_map, List.length_set, hs.len]; exact Nat.le_trans okL.m3 (by decide)) fun p5 H5 S5 p50 e5 => ?_
        repeat walk_at "h"
        rename_i p6 H6 S6 p60 e6
        have S26 := S3.trans (S4.trans (S5.trans S6))
        exact k1 (j + 1) r' (by unfold goes; rw [if_pos rfl, if_pos c]) hr' _ H6 (S02.trans S26) (.tup (.of e6) (.cons (dp_names (.of (S6 _ _ e5))) (.cons (hv2.same (S02.trans S26)) .nil)))
    | false =>
      rw [decide_eq_false (show ¬ wayS false = ("up" : Str) by decide +kernel)]
      repeat walk_at "h"
      refine ite2 (fun c => ?_) (fun c => ?_)
      · repeat walk_at "h"
        have c := of_decide_eq_true c
        exact k0 (by unfold goes; rw [if_neg (by decide), if_neg (by omega)]) H2 S02
      · have c : 0 < j := by have : ¬ ((j : Int) + -1 < 0) := fun z => c (decide_eq_true z); omega
        repeat walk_at "h"
        rw [List.length_map, List.length_map]
        refine i_eqF (by omega) ?_
        repeat walk_at "h"
        obtain ⟨r', hr'⟩ : ∃ r', m.2[j - 1]? = some r' := ⟨_, List.getElem?_eq_getElem (by omega)⟩
        refine i_slA ha12 fun p3 H3 S3 q3 => ?_
        rw [cut_to (by rw [List.length_map, hs.len]; omega)] at q3
        refine i_starT q3 ?_
        have eA3 := S3 _ _ eA2
        repeat walk_at "h"
        refine i_ixsL (.of eA3) (show atI _ ((j : Int) + -1) = some (.str r'.n) by rw [show ((j : Int) + -1) = ((j - 1 : Nat) : Int) by omega]; exact atI_nat (by rw [List.getElem?_map, List.getElem?_map, hr']; rfl)) ?_
        repeat walk_at "h"
        rw [show ((i : Int) + 1) = ((i + 1 : Nat) : Int) by omega]
        refine i_slA (S3.seqT ha12) fun p4 H4 S4 q4 => ?_
        rw [cut_from (by rw [List.length_map, hs.len]; omega)] at q4
        refine i_starT q4 ?_
        repeat walk_at "h"
        rw [show (s'.1.map V.str).take i ++ V.str r'.n :: ((s'.1.map V.str).drop (i + 1) ++ []) = (s'.1.set i r'.n).map V.str by rw [List.append_nil, List.set_eq_take_append_cons_drop, if_pos (by rw [hs.len]; exact hil), List.map_append, List.map_cons, List.map_take, List.map_drop]]
        refine i_szT (by rw [List.length_map, List.length_set, hs.len]; exact Nat.le_trans okL.m3 (by decide)) fun p5 H5 S5 p50 e5 => ?_
        repeat walk_at "h"
        rename_i p6 H6 S6 p60 e6
        have S26 := S3.trans (S4.trans (S5.trans S6))
        exact k1 (j - 1) r' (by unfold goes; rw [if_neg (by decide), if_pos c]) hr' _ H6 (S02.trans S26) (.tup (.of e6) (.cons (dp_names (.of (S6 _ _ e5))) (.cons (hv2.same (S02.trans S26)) .nil)))
theorem sc_figure_of : FnScope ["word", "found"] ["word"] (defScope s_figure_of) := ⟨rfl, rfl, rfl, by decide +kernel, rfl, by decide +kernel, by decide +kernel⟩
theorem ok_figure_of (T : Tx K mg) : FnAt P w K mg base CX0 4 (He.ga K "figure_of") ["word"] (spRatioOf) := by
  refine T.f_figure_of.f.ok sc_figure_of ?_ (fun cdv A outer s H vs Q E hr h => ?_)
  · walk_at "len"
  · obtain ⟨q, rfl, hq, k⟩ := h
    have h1 := hq.n; have h2 := hq.d
    have hl := rT_len hq
    have hz : (rT q).length ≤ sizeLine := Nat.le_trans hl (by decide)
    refine ⟨_, (pss_cons (ps_if (pt_cmpR op_gt (pe_callB cr_len rfl T.b_len (by decide +kernel) (pa_cons (pv 0) pa_nil)) (pe_globI rfl T.m_LONGEST_RATIO) (nomark _)) (pss_one (ps_ret pe_non)) pss_nil)
      (pss_cons (ps_set (i := 1) sc_figure_of.nd rfl (.inl rfl) (pe_fn T.f_ratio_of (ok_ratio_of T) (hr.mono (by decide)) (pa_cons (pv 0) pa_nil)))
      (pss_cons (ps_if (PW.pt (pw_or (pt_cmpR op_isN (pv 1) pe_non (nomark _)) (pw_or (pt_cmpR op_gt (pe_ix ix_seq (pv 1) pe_int (fun _ _ => rfl)) (pe_globI rfl T.m_MOST_PART) (nomark _)) (pw_or1 (pt_cmpR op_gt (pe_ix ix_seq (pv 1) pe_int (fun _ _ => rfl)) (pe_globI rfl T.m_MOST_PART) (nomark _)))))) (pss_one (ps_ret pe_non)) pss_nil)
      (pss_one (ps_ret (pv 1)))))), ?_⟩
    refine My.i_go (σ' := [some _, none]) rfl ?_
    repeat walk_at "h"
    refine i_lenS hz ?_
    repeat walk_at "h"
    refine ite_dn (by omega) ?_
    repeat walk_at "h"
    refine ⟨_, rfl, hq, fun p H1 S1 hp e1 => ?_⟩
    repeat walk_at "h"
    refine ite_dn (by omega) ?_
    repeat walk_at "h"
    refine ite_dn (by omega) ?_
    repeat walk_at "h"
    exact k p H1 S1 hp e1
theorem sc__law_ranges : FnScope ["_law_pot_here", "_law_many", "_law_way", "_law_loads", "_law_by", "_law_up", "_law_found", "_law_at", "_law_name", "_law_down", "_law_size"] ["_law_pot_here", "_law_many", "_law_way"] (defScope s__law_ranges) := ⟨rfl, rfl, rfl, by decide +kernel, rfl, by decide +kernel, by decide +kernel⟩
theorem ok__law_ranges (T : Tx K mg) : FnAt P w K mg base CX0 4 (He.ga K "_law_ranges") ["_law_pot_here", "_law_many", "_law_way"] (spRanges K) := by
  refine T.f__law_ranges.f.ok sc__law_ranges ?_ (fun cdv A outer s H vs Q E hr h => ?_)
  · walk_at "len"
  · obtain ⟨p, m, w', n, rfl, hP, hn, hm1, hm4, k⟩ := h
    refine ⟨_, (pss_cons (ps_asg (pe_tup (pa_cons (pe_fn T.f__law_loads_of (ok__law_loads_of T) (hr.mono (by decide)) (pa_cons (pv 0) (pa_cons (pv 1) (pa_cons (pv 2) pa_nil)))) (pa_cons (pe_op op_add pe_int (pe_fn T.f__law_take (ok__law_take T) (hr.mono (by decide)) (pa_cons (pv 0) (pa_cons pe_int pa_nil)))) (pa_cons pe_int (pa_cons (pe_lst pa_nil) pa_nil))))) (pg_tup rfl (pgs_cons (pg_name (i := 3) sc__law_ranges.nd rfl (.inl rfl)) (pgs_cons (pg_name (i := 4) sc__law_ranges.nd rfl (.inl rfl)) (pgs_cons (pg_name (i := 5) sc__law_ranges.nd rfl (.inl rfl)) (pgs_cons (pg_name (i := 6) sc__law_ranges.nd rfl (.inl rfl)) pgs_nil))))))
      (pss_cons (ps_for PassesOwn.never rfl (pi_enum rfl T.b_enumerate (pa_cons (pe_fn T.f__law_names (ok__law_names T) (hr.mono (by decide)) (pa_cons (pv 0) (pa_cons (pv 1) pa_nil))) pa_nil)) (pg_tup rfl (pgs_cons (pg_name (i := 7) sc__law_ranges.nd rfl (.inl rfl)) (pgs_cons (pg_name (i := 8) sc__law_ranges.nd rfl (.inl rfl)) pgs_nil))) (pss_cons (ps_set (i := 9) sc__law_ranges.nd rfl (.inl rfl) (pe_ifExp (pt_cmpR op_gt (pv 7) pe_int (nomark _)) (pe_fn T.f__law_pair (ok__law_pair T) (hr.mono (by decide)) (pa_cons (pe_op op_mulW (pv 5) (pe_fn T.f__law_of (ok__law_of T) (hr.mono (by decide)) (pa_cons (pv 0) (pa_cons (pe_lst (pa_cons pe_int (pa_cons pe_int (pa_cons pe_int (pa_cons pe_int (pa_cons pe_int pa_nil)))))) pa_nil)))) (pa_cons (pe_op op_mulW pe_int (pv 4)) pa_nil))) pe_non))
      (pss_cons (ps_set (i := 5) sc__law_ranges.nd rfl (.inl rfl) (pe_op op_add (pe_op op_add (pv 5) pe_int) (pe_fn T.f__law_take (ok__law_take T) (hr.mono (by decide)) (pa_cons (pv 0) (pa_cons pe_int pa_nil)))))
      (pss_cons (ps_set (i := 10) sc__law_ranges.nd rfl (.inl rfl) (pe_fn T.f__law_of (ok__law_of T) (hr.mono (by decide)) (pa_cons (pv 0) (pa_cons (pe_lst (pa_cons (pe_tup (pa_cons pe_int (pa_cons pe_int pa_nil))) (pa_cons (pe_tup (pa_cons pe_int (pa_cons pe_int pa_nil))) (pa_cons (pe_tup (pa_cons pe_int (pa_cons pe_int pa_nil))) (pa_cons (pe_tup (pa_cons pe_int (pa_cons pe_int pa_nil))) (pa_cons (pe_tup (pa_cons pe_int (pa_cons pe_int pa_nil))) pa_nil)))))) pa_nil))))
      (pss_one (ps_expr (pe_bm PySem.F.plainAttrs_list PySem.F.slot_list_append PySem.F.type_list_append mt_append (pv 6) (pa_cons (pe_tup (pa_cons (pv 8) (pa_cons (pe_ix ix_seq (pv 3) (pv 7) (fun _ _ => rfl)) (pa_cons (pv 10) (pa_cons (pv 9) (pa_cons (pe_ifExp (pt_cmpR op_lt (pv 7) (pe_op op_sub (pv 1) pe_int) (nomark _)) (pe_fn T.f__law_pair (ok__law_pair T) (hr.mono (by decide)) (pa_cons (pv 5) (pa_cons (pv 4) pa_nil))) pe_non) pa_nil)))))) pa_nil))))))))
      (pss_one (ps_ret (pv 6))))), ?_⟩
    refine My.i_go (σ' := [some _, some _, some _, none, none, none, none, none, none, none, none]) rfl ?_
    repeat walk_at "h"
    refine ⟨p, m, w', n, rfl, hP, by omega, by omega, fun lq H1 xs qs B1 P1 q0 elq hxs hql hqs => ?_⟩
    repeat walk_at "h"
    refine ⟨p, 2, n + 2 * m, rfl, P1, by omega, by decide, by decide, fun r H2 r0 r1 P2 B2 => ?_⟩
    repeat walk_at "h"
    rename_i fd H3 S3 f0 efd tp H4 S4 t0 etp
    try refine My.i_we ?_
    repeat walk_at "h"
    have S24 := S3.trans S4
    refine ⟨p, m, n + 2 * m + 1, rfl, P2.same S24, by omega, by omega, fun ln H5 ns B5 P5 n0 eln hnl hnd hnm => ?_⟩
    repeat walk_at "h"
    refine My.i_wev (.of eln) ?_
    have npq : p ≠ lq := hP.ne q0
    have npf : p ≠ fd := P2.ne f0
    have npn : p ≠ ln := (P2.same S24).ne n0
    have nqf : lq ≠ fd := ne_of_none (B2 _ _ npq.symm elq) f0
    have nqn : lq ≠ ln := ne_of_none (S24 _ _ (B2 _ _ npq.symm elq)) n0
    have nfn : fd ≠ ln := ne_of_none (S4 _ _ efd) n0
    have hf0 : H fd = none := (B1.trans B2).free npf.symm f0
    have B0 : But p H H5 := ((B1.trans B2).trans S24.but).trans B5
    have bn0 : Bn K lq ln fd xs qs ns [] [] H5 := by
      obtain ⟨l1, ep1⟩ := P1.some
      obtain ⟨l2, ep2⟩ := (P2.same S24).some
      exact ⟨eln, B5 _ _ npq.symm (S24 _ _ (B2 _ _ npq.symm elq)), dpAll_butN ep2 trivial B5 (noL_map noL_rat _) ((dpAll_butN ep1 trivial B2 (noL_map noL_rat _) hxs).same S24), B5 _ _ npf.symm (S4 _ _ efd), .nil⟩
    have P0 : Pot H5 p (n + 13) := P5.mono (by omega)
    clear P5 P2 P1 elq hxs eln
    have rb : (0 : Int) < 1 + r := by omega
    refine forq_enum (xs := ns.map V.str) (fun i σ' H' => ∃ (up : Int) (w7 w8 w9 w10 : Option V) (acc : List V) (rows : List My.Row), σ' = [some (.ref p), some (.int m), some (.int w'), some (.ref lq), some (.int (1 + r)), some (.int up), some (.ref fd), w7, w8, w9, w10] ∧ Pot H' p (n + 13 + 3 * i) ∧ Bn K lq ln fd xs qs ns acc rows H' ∧ rows.map (·.n) = ns.take i ∧ 0 ≤ up ∧ up ≤ 6 * i ∧ But p H H' ∧ ((i < m ∧ RowsP [] rows ∧ ∀ a ∈ rows.getLast?, a.U = some ((up : Rat) / ((1 + r : Int) : Rat))) ∨ (i = m ∧ RowsOk [] rows)))
      ⟨0, none, none, none, none, [], [], rfl, P0.mono (by omega), bn0, rfl, by decide, by decide, B0, .inl ⟨by omega, trivial, fun a ha => by cases ha⟩⟩ (fun i σ' H' _ ⟨_, _, _, _, _, _, _, _, _, b, _⟩ => .of b.1) ?_ ?_
    · clear bn0 P0 B0
      rintro i x σ' H' t7 H7 hx ⟨up, w7, w8, w9, w10, acc, rows, rfl, P, bn, hrn, u0, u1, B, hcase⟩ S7 ht7 et7
      rw [List.getElem?_map] at hx
      obtain ⟨nm, hnm7, rfl⟩ := Option.map_eq_some_iff.mp hx
      have hi : i < m := by have := (List.getElem?_eq_some_iff.mp hnm7).1; omega
      obtain ⟨_, hrp, hlast⟩ := hcase.resolve_right fun z => by omega
      have bn7 := bn.same S7
      have P7 := P.same S7
      have B7 : But p H H7 := B.same S7
      clear bn P B S7
      repeat walk_at "h"
      refine i_joinHp (fun v H8 => But p H7 H8 ∧ Pot H8 p (n + 13 + 3 * i + 1) ∧ ∃ D : Option Rat, Dp K H8 v (optD D) ∧ (i = 0 → D = none) ∧ (0 < i → ∃ q, D = some q ∧ RatOk q ∧ q ≤ (up : Rat) / ((1 + r : Int) : Rat))) (fun c Q' hQ => ?_) (fun c Q' hQ => ?_) ?_
      · have c : 0 < i := by have := of_decide_eq_true c; omega
        repeat walk_at "h"
        rename_i l9 H9 S9 l90 el9
        refine ⟨p, l9, [.int 4, .int 2, .int 3, .int 1, .int 0], n + 13 + 3 * i, rfl, P7.same S9, by omega, (P7.ne l90).symm, .of el9, by decide, by decide, fun v H10 hv P10 B10 => ?_⟩
        obtain ⟨c4, rfl, c40, c41⟩ : ∃ c : Int, v = .int c ∧ 0 ≤ c ∧ c ≤ 4 := by
          simp only [List.mem_cons, List.not_mem_nil, or_false] at hv
          rcases hv with rfl | rfl | rfl | rfl | rfl <;> exact ⟨_, rfl, by decide, by decide⟩
        have sm : ∀ z : Int, 0 ≤ z → z ≤ 1000 → z.natAbs < 2 ^ 30 := fun z _ _ => by omega
        have spw : (2 : Nat) ^ 30 ≤ 2 ^ 4000 := Nat.pow_le_pow_right (by decide) (by decide)
        have uc0 : 0 ≤ up * c4 := Int.mul_nonneg u0 c40
        have uc1 : up * c4 ≤ up * 4 := Int.mul_le_mul_of_nonneg_left c41 u0
        refine i_I (mulZ (sm _ u0 (by omega)) (sm _ c40 (by omega)) (by decide)) ?_
        repeat walk_at "h"
        refine ⟨up * c4, 4 * (1 + r), rfl, by omega, Nat.lt_of_lt_of_le (sm _ uc0 (by omega)) spw, Nat.lt_of_lt_of_le (sm _ (by omega) (by omega)) spw, fun a9 H11 S11 a90 e11 => ?_⟩
        refine hQ _ _ ⟨(S9.but.trans B10).same S11, (P10.same S11).mono (by omega), some _, dp_rat (.of e11), fun z => by omega, fun _ => ⟨_, rfl, ratOk_div uc0 (by omega) (by omega) (by omega), div_le_div (by omega) rb ?_⟩⟩
        have := Int.mul_le_mul_of_nonneg_right uc1 (show (0 : Int) ≤ 1 + r by omega)
        rw [Int.mul_assoc up 4] at this
        exact this
      · have c : i = 0 := by have := of_decide_eq_false c; omega
        repeat walk_at "h"
        exact hQ _ _ ⟨.refl _, P7.mono (by omega), none, .non, fun _ => rfl, fun z => by omega⟩
      · rintro v8 H8 ⟨B8, P8, D, hv8, hD0, hD1⟩
        obtain ⟨l7, ep7⟩ := P7.some
        have bn8 := bn7.but ep7 npq npn npf B8
        repeat walk_at "h"
        refine ⟨p, 6, n + 13 + 3 * i + 1, rfl, P8, by omega, by decide, by decide, fun r6 H9 r60 r61 P9 B9 => ?_⟩
        obtain ⟨l8, ep8⟩ := P8.some
        have bn9 := bn8.but ep8 npq npn npf B9
        have hv9 := dp_butN ep8 trivial B9 (noL_opt _) hv8
        have B79 := (B7.trans B8).trans B9
        clear bn7 bn8 hv8
        repeat walk_at "h"
        rename_i t1 G1 S1' t10 et1 t2 G2 S2' t20 et2 t3 G3 S3' t30 et3 t4 G4 S4' t40 et4 t5 G5 S5' t50 et5 l5 G6 S6' l50 el5
        have SS5 := S1'.trans (S2'.trans (S3'.trans (S4'.trans S5')))
        have SS := SS5.trans S6'
        have P10 := P9.same SS
        have hv10 := hv9.same SS
        have bn10 := bn9.same SS
        refine ⟨p, l5, [.ref t1, .ref t2, .ref t3, .ref t4, .ref t5], n + 13 + 3 * i + 1 + 1, rfl, P10, by omega, (P9.ne (SS5.free l50)).symm, .of el5, show 0 < 5 by decide, show 5 < 1000000 by decide, fun v H11 hv P11 B11 => ?_⟩
        have hs : SizeV K G6 v := by
          simp only [List.mem_cons, List.not_mem_nil, or_false] at hv
          rcases hv with rfl | rfl | rfl | rfl | rfl
          · exact sizeV (n := 1) (d := 10) (.of (S6' _ _ (S5' _ _ (S4' _ _ (S3' _ _ (S2' _ _ et1)))))) (by decide) (by decide) (by decide) (by decide) (by decide)
          · exact sizeV (n := 1) (d := 1) (.of (S6' _ _ (S5' _ _ (S4' _ _ (S3' _ _ et2))))) (by decide) (by decide) (by decide) (by decide) (by decide)
          · exact sizeV (n := 1) (d := 2) (.of (S6' _ _ (S5' _ _ (S4' _ _ et3)))) (by decide) (by decide) (by decide) (by decide) (by decide)
          · exact sizeV (n := 2) (d := 1) (.of (S6' _ _ (S5' _ _ et4))) (by decide) (by decide) (by decide) (by decide) (by decide)
          · exact sizeV (n := 1) (d := 3) (.of (S6' _ _ et5)) (by decide) (by decide) (by decide) (by decide) (by decide)
        obtain ⟨lg, eg⟩ := P10.some
        obtain ⟨z, hz, okz, z0⟩ := hs
        have hz := dp_butN eg trivial B11 (noL_rat _) hz
        have hv11 := dp_butN eg trivial B11 (noL_opt _) hv10
        have bn11 := bn10.but eg npq npn npf B11
        have B11 := (B79.trans SS.but).trans B11
        clear bn9 bn10 hv9 hv10 hv
        obtain ⟨g, hg1, hg⟩ := dpAll_at bn11.2.2.1 (i := i) (d := ratD (qs[i]'(by omega))) (by rw [List.getElem?_map, List.getElem?_eq_getElem]; rfl)
        have okg := hqs (qs[i]'(by omega)) (List.getElem_mem _)
        have efd11 := bn11.2.2.2.1
        repeat walk_at "h"
        refine i_ixsL (.of bn11.2.1) (atI_nat hg1) ?_
        repeat walk_at "h"
        refine i_joinHp (fun v H12 => Same H11 H12 ∧ ∃ U : Option Rat, Dp K H12 v (optD U) ∧ ((i + 1 < m ∧ U = some (((up + 1 + r6 : Int) : Rat) / ((1 + r : Int) : Rat))) ∨ (i + 1 = m ∧ U = none))) (fun c Q' hQ => ?_) (fun c Q' hQ => ?_) ?_
        · have c : i + 1 < m := by have := of_decide_eq_true c; omega
          have spw : (2 : Nat) ^ 30 ≤ 2 ^ 4000 := Nat.pow_le_pow_right (by decide) (by decide)
          repeat walk_at "h"
          refine ⟨up + 1 + r6, 1 + r, rfl, rb, Nat.lt_of_lt_of_le (show (up + 1 + r6).natAbs < 2 ^ 30 by omega) spw, Nat.lt_of_lt_of_le (show (1 + r).natAbs < 2 ^ 30 by omega) spw, fun a9 H12 S12 a90 e12 => ?_⟩
          exact hQ _ _ ⟨S12, some _, dp_rat (.of e12), .inl ⟨c, rfl⟩⟩
        · have c : i + 1 = m := by have := of_decide_eq_false c; omega
          repeat walk_at "h"
          exact hQ _ _ ⟨.refl _, none, .non, .inr ⟨c, rfl⟩⟩
        · rintro v12 H12 ⟨S12, U, hU, hcU⟩
          have bn12 := bn11.same S12
          have P12 := P11.same S12
          have hz := hz.same S12
          have hg := hg.same S12
          have hv12 := hv11.same S12
          have B12 := B11.same S12
          clear bn11 hv11 B11
          repeat walk_at "h"
          rename_i a13 H13 S13 a130 e13
          have bn13 := bn12.same S13
          have hrl : rows.length = i := by have := congrArg List.length hrn; rw [List.length_map, List.length_take, hnl] at this; omega
          have hal : acc.length = i := by rw [dpAll_len bn13.2.2.2.2, List.length_map, hrl]
          refine i_app bn13.2.2.2.1 (by rw [hal]; exact Nat.lt_of_lt_of_le (show i < 100 by omega) (by decide)) fun H14 B14 e14 => ?_
          have dr : Dp K H13 (.ref a13) (rowD ⟨nm, qs[i]'(by omega), z, D, U⟩) := dp_row (.of e13) (hg.same S13) (hz.same S13) (hv12.same S13) (hU.same S13)
          have bn14 := bn13.app nqf.symm nfn B14 e14 dr
          have hU' : ∀ q, U = some q → q = ((up + 1 + r6 : Int) : Rat) / ((1 + r : Int) : Rat) := fun q e => by
            rcases hcU with ⟨_, h⟩ | ⟨_, h⟩
            · rw [e] at h; exact Option.some.inj h
            · rw [e] at h; cases h
          have ulast : ∀ a ∈ rows.getLast?, a.U = some ((up : Rat) / ((1 + r : Int) : Rat)) := hlast
          have rok : RowOk ⟨nm, qs[i]'(by omega), z, D, U⟩ rows := by
            refine ⟨hnm _ (List.mem_of_getElem? hnm7), fun a ha => ?_, okg, okz, z0, ⟨fun h => ?_, fun h => ?_⟩, fun q e => ?_, fun a ha => ⟨_, hlast a ha, ratOk_div u0 (by omega) rb (by omega), fun q e => ?_, fun q e => ?_⟩⟩
            · intro e
              have e : a.n = nm := e
              have h1 : a.n ∈ ns.take i := hrn ▸ List.mem_map.mpr ⟨a, ha, rfl⟩
              rw [e] at h1
              obtain ⟨j, hj, e2⟩ := List.mem_take_iff_getElem.mp h1
              have hi2 := List.getElem?_eq_some_iff.mp hnm7
              have := (List.getElem_inj hnd).mp (e2.trans hi2.2.symm)
              omega
            · exact hD0 (by rw [h] at hrl; exact hrl.symm)
            · obtain ⟨q, e, ok, _⟩ := hD1 (by have := List.length_pos_iff.mpr h; omega)
              exact ⟨q, e, ok⟩
            · rw [hU' q e]
              refine ⟨ratOk_div (by omega) (by omega) rb (by omega), ?_⟩
              have := div_lt_div (a := 0) (c := up + 1 + r6) rb rb (by rw [Int.zero_mul]; exact Int.mul_pos (by omega) rb)
              have e0 : (((0 : Int) : Rat) / ((1 + r : Int) : Rat)) = 0 := by rw [Rat.div_def]; simp
              rwa [e0] at this
            · have e : D = some q := e
              rcases Nat.eq_zero_or_pos i with h | h
              · rw [hD0 h] at e; cases e
              · obtain ⟨q2, e2, _, l2⟩ := hD1 h
                rw [e2] at e
                cases e
                exact l2
            · rw [hU' q e]
              exact div_lt_div rb rb (Int.mul_lt_mul_of_pos_right (by omega) rb)
          refine ⟨up + 1 + r6, _, _, _, _, _, _, rfl, (((P12.same S13).butne B14 npf).mono (by omega)), bn14, ?_, by omega, by omega, But.ext (B12.same S13) hf0 B14, ?_⟩
          · rw [List.map_append, hrn, List.take_add_one, hnm7]; rfl
          · rcases hcU with ⟨c, e⟩ | ⟨c, e⟩
            · refine .inl ⟨c, hrp.snoc rok (fun h => by have h : U = none := h; rw [e] at h; cases h), fun a ha => ?_⟩
              rw [List.getLast?_append, List.getLast?_singleton] at ha
              simp only [Option.some_or, Option.mem_def, Option.some.injEq] at ha
              rw [← ha]
              exact e
            · exact .inr ⟨c, hrp.done rok e⟩
    · rintro σ' H' ⟨up, w7, w8, w9, w10, acc, rows, rfl, P, bn, hrn, u0, u1, B, hcase⟩
      repeat walk_at "h"
      rw [List.length_map, hnl] at hcase hrn P
      obtain ⟨_, hok⟩ := hcase.resolve_left fun z => by omega
      have hrl : rows.length = m := by have := congrArg List.length hrn; rw [List.length_map, List.length_take, hnl] at this; omega
      exact k fd H' acc rows B (P.mono (by omega)) hf0 bn.2.2.2.1 bn.2.2.2.2 hrl hok
theorem sc__law_lower : FnScope ["_law_lore_here", "_law_row"] ["_law_lore_here", "_law_row"] (defScope s__law_lower) := ⟨rfl, rfl, rfl, by decide +kernel, rfl, by decide +kernel, by decide +kernel⟩
theorem ok__law_lower (T : Tx K mg) : FnAt P w K mg base CX0 4 (He.ga K "_law_lower") ["_law_lore_here", "_law_row"] (spLower K) := by
  refine T.f__law_lower.f.ok sc__law_lower ?_ (fun cdv A outer s H vs Q E hr h => ?_)
  · walk_at "len"
  · obtain ⟨d, a, F, L, r, ah, rfl, hL, okL, hd, ok, k⟩ := h
    obtain ⟨ms, ls, xs, ys, fd, fms, fls, ed, ems, hms, els, hls⟩ := hL
    obtain ⟨a', g, z, dv, u, e, hr5, hg, hz, hdd, hu⟩ := row_dp hd
    cases e
    have hsp := okL.spread
    refine ⟨_, (pss_one (ps_ret (pe_ifExp (pt_cmpR op_isN (pe_ix ix_seq (pv 1) pe_int (fun _ _ => rfl)) pe_non (nomark _)) pe_non (pe_fn T.f__law_times (ok__law_times T) (hr.mono (by decide)) (pa_cons (pe_ix ix_seq (pv 1) pe_int (fun _ _ => rfl)) (pa_cons (pe_fn T.f__law_pair (ok__law_pair T) (hr.mono (by decide)) (pa_cons (pe_op op_sub pe_int (pe_dget (hu_of hr) (pv 0) pe_str (fun _ _ => rfl))) (pa_cons pe_int pa_nil))) pa_nil)))))), ?_⟩
    refine My.i_go (σ' := [some _, some _]) rfl ?_
    repeat walk_at "h"
    refine ite2 (fun c => ?_) (fun c => ?_)
    · rcases opt_dp hdd with ⟨eD, e⟩ | ⟨q, b, eD, e, hb⟩
      · repeat walk_at "h"
        exact k _ _ (.refl _) (by show Dp K H .non (optD (r.D.map (lowQ L.spread))); rw [eD]; exact .non)
      · rw [e] at c; cases c
    · rcases opt_dp hdd with ⟨eD, e⟩ | ⟨q, b, eD, e, hb⟩
      · exact absurd (by rw [e]; rfl) c
      · have hq : RatOk q := by
          by_cases h : ah = []
          · rw [ok.d.1 h] at eD; cases eD
          · obtain ⟨q2, e2, o2⟩ := ok.d.2 h
            rw [eD] at e2; cases e2; exact o2
        subst e
        repeat walk_at "h"
        refine ⟨20 - (L.spread : Int), 20, rfl, by decide, Nat.lt_of_lt_of_le (show (20 - (L.spread : Int)).natAbs < 2 ^ 30 by omega) (Nat.pow_le_pow_right (by decide) (by decide)), Nat.lt_of_lt_of_le (show (20 : Int).natAbs < 2 ^ 30 by decide) (Nat.pow_le_pow_right (by decide) (by decide)), fun p H1 S1 hp e1 => ?_⟩
        repeat walk_at "h"
        have zsh : Sz 40 (((20 - L.spread : Int) : Rat) / ((20 : Int) : Rat)) := sz_divI (by omega) (by omega) (by omega)
        refine ⟨b, p, q, _, 40, rfl, S1.seqT hb, .of e1, hq.sz.mono (by omega), zsh, by omega, trivial, fun c H2 S2 hc e2 => ?_⟩
        exact k _ _ (S1.trans S2) (by show Dp K H2 _ (optD (r.D.map (lowQ L.spread))); rw [eD]; exact dp_rat (.of e2))
theorem sc__law_settings : FnScope ["_law_lore_here", "_law_ranges_here", "_law_on", "_law_name", "_law_rows_here", "_law_longer", "_law_some_here", "_law_row", "_law_load", "_law_found", "_law_one"] ["_law_lore_here"] (defScope s__law_settings) := ⟨rfl, rfl, rfl, by decide +kernel, rfl, by decide +kernel, by decide +kernel⟩
theorem ok__law_settings (T : Tx K mg) : FnAt P w K mg base CX0 4 (He.ga K "_law_settings") ["_law_lore_here"] (spSettL K) := by
  refine T.f__law_settings.f.ok sc__law_settings ?_ (fun cdv A outer s H vs Q E hr h => ?_)
  · walk_at "len"
  · obtain ⟨d, F, L, rfl, hL, okL, hfew, k⟩ := h
    obtain ⟨ms, ls, xs, ys, fd, fms, fls, ed, ems, hms, els, hls⟩ := hL
    have hxl : xs.length = L.meters.length := Paired.length hms
    have hyl : ys.length = L.loads.length := by have := dpAll_len hls; rwa [List.length_map] at this
    refine ⟨_, (pss_cons (ps_par (i := 1) (j := 2) rfl sc__law_settings.nd rfl rfl (by decide) rfl rfl (pa_cons (pe_lst (pa_cons (pe_tup pa_nil) pa_nil)) (pa_cons (pe_lst (pa_cons (pe_tup pa_nil) pa_nil)) pa_nil)) rfl)
      (pss_cons (ps_for PassesOwn.never rfl (pi_list (pe_dget (hu_of hr) (pv 0) pe_str (fun _ _ => rfl))) (pg_tup rfl (pgs_cons (pg_name (i := 3) sc__law_settings.nd rfl (.inr rfl)) (pgs_cons (pg_name (i := 4) sc__law_settings.nd rfl (.inl rfl)) pgs_nil))) (pss_cons (ps_set (i := 5) sc__law_settings.nd rfl (.inl rfl) (pe_lst pa_nil))
      (pss_cons (ps_for PassesOwn.never rfl (pi_list (pv 1)) (pg_name (i := 6) sc__law_settings.nd rfl (.inr rfl)) (pss_one (ps_expr (pe_bm PySem.F.plainAttrs_list PySem.F.slot_list_extend PySem.F.type_list_extend mt_extend (pv 5) (pa_cons (pe_lc (own := [("_law_row", 7)]) rfl sc__law_settings.nd (pi_list (pv 4)) (blkOk_by (own := [("_law_row", 7)]) (N := ["_law_lore_here", "_law_ranges_here", "_law_on", "_law_name", "_law_rows_here", "_law_longer", "_law_some_here", "_law_row", "_law_load", "_law_found", "_law_one"]) (sc := defScope s__law_settings) (by decide +kernel)) (fun _ _ _ _ _ => (pg_name (i := 7) sc__law_settings.nd rfl (.inl rfl))) (fun _ _ _ _ _ => pts_nil) (fun _ _ _ _ _ => (pe_op (op_catAK (K := K) rfl) (pv 6) (pe_tup (pa_cons (pe_ix (ix_seqK (K := K) rfl) (pv 7) pe_int (fun _ _ => rfl)) pa_nil))))) pa_nil)))))
      (pss_one (ps_set (i := 1) sc__law_settings.nd rfl (.inl rfl) (pv 5))))))
      (pss_cons (ps_for PassesOwn.never rfl (pi_list (pe_dget (hu_of hr) (pv 0) pe_str (fun _ _ => rfl))) (pg_tup rfl (pgs_cons (pg_name (i := 3) sc__law_settings.nd rfl (.inr rfl)) (pgs_cons (pg_name (i := 8) sc__law_settings.nd rfl (.inl rfl)) pgs_nil))) (pss_one (ps_set (i := 2) sc__law_settings.nd rfl (.inl rfl) (pe_op op_cat (pv 2) (pe_lc (own := [("_law_some_here", 6)]) rfl sc__law_settings.nd (pi_list (pv 2)) (blkOk_by (own := [("_law_some_here", 6)]) (N := ["_law_lore_here", "_law_ranges_here", "_law_on", "_law_name", "_law_rows_here", "_law_longer", "_law_some_here", "_law_row", "_law_load", "_law_found", "_law_one"]) (sc := defScope s__law_settings) (by decide +kernel)) (fun _ _ _ _ _ => (pg_name (i := 6) sc__law_settings.nd rfl (.inl rfl))) (fun _ _ _ _ _ => pts_nil) (fun _ _ _ _ _ => (pe_op (op_catAK (K := K) rfl) (pv 6) (pe_tup (pa_cons (pv 3) pa_nil)))))))))
      (pss_cons (ps_set (i := 9) sc__law_settings.nd rfl (.inl rfl) (pe_lst pa_nil))
      (pss_cons (ps_for PassesOwn.never rfl (pi_list (pv 1)) (pg_name (i := 6) sc__law_settings.nd rfl (.inr rfl)) (pss_one (ps_expr (pe_bm PySem.F.plainAttrs_list PySem.F.slot_list_extend PySem.F.type_list_extend mt_extend (pv 9) (pa_cons (pe_lc (own := [("_law_one", 10)]) rfl sc__law_settings.nd (pi_list (pv 2)) (blkOk_by (own := [("_law_one", 10)]) (N := ["_law_lore_here", "_law_ranges_here", "_law_on", "_law_name", "_law_rows_here", "_law_longer", "_law_some_here", "_law_row", "_law_load", "_law_found", "_law_one"]) (sc := defScope s__law_settings) (by decide +kernel)) (fun _ _ _ _ _ => (pg_name (i := 10) sc__law_settings.nd rfl (.inl rfl))) (fun _ _ _ _ _ => pts_nil) (fun _ _ _ _ _ => (pe_tup (pa_cons (pv 6) (pa_cons (pv 10) pa_nil))))) pa_nil)))))
      (pss_one (ps_ret (pe_callB (cr_sortK rfl hr.units) rfl T.b_sorted (by decide +kernel) (pa_cons (pe_callTy (cr_setK rfl hr.units) rfl T.b_set (by decide +kernel) (pa_cons (pv 9) pa_nil)) pa_nil))))))))), ?_⟩
    refine My.i_go (σ' := [some _, none, none, none, none, none, none, none, none, none, none]) rfl ?_
    repeat walk_at "h"
    rename_i t1 H1 S1 t10 et1 r1 H2 S2 r10 er1 t2 H3 S3 t20 et2 o1 H4 S4 o10 eo1
    have S04 : Same H H4 := S1.trans (S2.trans (S3.trans S4))
    have hrf : H r1 = none := S1.free r10
    have hof : H o1 = none := (S1.trans (S2.trans S3)).free o10
    have er4 := S4 _ _ (S3 _ _ er1)
    have et4 := S4 _ _ (S3 _ _ (S2 _ _ et1))
    have et24 := S4 _ _ et2
    have nil1 : ∀ {Hx : Hp} {t : Addr}, Hx t = some (.tup []) → DpAll K Hx [.ref t] (([[]] : List (List Str)).map namesD) := fun e => .cons (dp_names (ns := []) (.of e)) .nil
    have hlenL : L.meters.length ≤ 3 := okL.m3
    have hlen2 : L.loads.length ≤ 2 := okL.l2
    have hrow4 : ∀ m ∈ L.meters, m.2.length ≤ 4 := fun m hm => (okL.rows m hm).2.1
    have hPb := placesOf_bound hrow4
    have hCb := choicesOf_bound (ls := L.loads)
    refine forq_list (xs := xs) (fun i σ' H' => ∃ (w3 w4 w5 w6 w7 w8 w9 w10 : Option V) (r : Addr) (zs : List V), σ' = [some (.ref d), some (.ref r), some (.ref o1), w3, w4, w5, w6, w7, w8, w9, w10] ∧ Same H H' ∧ H r = none ∧ H' r = some (.lst zs) ∧ DpAll K H' zs ((placesOf (L.meters.take i)).map namesD) ∧ H' o1 = some (.lst [.ref t2]) ∧ H' t2 = some (.tup [])) ⟨_, _, _, _, _, _, _, _, r1, _, rfl, S04, hrf, er4, nil1 et4, eo1, et24⟩ (fun i σ' H' _ ⟨_, _, _, _, _, _, _, _, _, _, _, S, _⟩ => .of (S _ _ ems)) ?_ ?_
    · rintro i x σ' H5 hx ⟨w3, w4, w5, w6, w7, w8, w9, w10, r, zs, rfl, S5, hr0, er5, hz5, eo5, et5⟩
      obtain ⟨m, hm, hmt⟩ := L2.paired_get hms hx
      obtain ⟨a, b, rws, rfl, fb, hat0, hb0, hrw0⟩ := hmt
      have him := (List.getElem?_eq_some_iff.mp hm).1
      have hmm := List.mem_of_getElem? hm
      obtain ⟨hmne, hm4, hmro⟩ := okL.rows m hmm
      have hat := S5.seqT hat0
      have hPi := (hPb i (by omega)).1
      have hP64 : (placesOf (L.meters.take i)).length ≤ 64 := Nat.le_trans hPi (Nat.le_trans (Nat.pow_le_pow_right (by decide) (show i ≤ 3 by omega)) (by decide))
      have hzl : zs.length = (placesOf (L.meters.take i)).length := by have := dpAll_len hz5; rwa [List.length_map] at this
      have hstep : placesOf (L.meters.take (i + 1)) = stepP (placesOf (L.meters.take i)) m.2 := by rw [placesOf_take him]; rw [(List.getElem?_eq_some_iff.mp hm).2]
      have hrwl : rws.length = m.2.length := by have := dpAll_len hrw0; rwa [List.length_map] at this
      rw [hstep]
      have hPlen := (hPb i (by omega)).2
      generalize placesOf (L.meters.take i) = PP at *
      repeat walk_at "h"
      rename_i lg H6 S6 lg0 elg
      have S56 := S5.trans S6
      have hlg0 : H lg = none := S5.free lg0
      repeat walk_at "h"
      refine forq_list (xs := zs) (fun j σ' H' => ∃ (u6 u7 : Option V) (qs : List V), σ' = [some (.ref d), some (.ref r), some (.ref o1), some (.str m.1), some (.ref b), some (.ref lg), u6, u7, w8, w9, w10] ∧ Same H5 H' ∧ H' lg = some (.lst qs) ∧ DpAll K H' qs ((stepP (PP.take j) m.2).map namesD)) ⟨_, _, [], rfl, S6, elg, .nil⟩ (fun j σ' H' _ ⟨_, _, _, _, S, _⟩ => .of (S _ _ er5)) ?_ ?_
      · rintro j x σ' H7 hx ⟨u6, u7, qs, rfl, S7, elg7, hq7⟩
        obtain ⟨dx, hdx, hxd⟩ := dpAll_get (hz5.same S7) hx
        rw [List.getElem?_map] at hdx
        obtain ⟨pl, hpl, rfl⟩ := Option.map_eq_some_iff.mp hdx
        obtain ⟨ap, rfl, hap⟩ := names_dp hxd
        have hj64 : j < 64 := by have := (List.getElem?_eq_some_iff.mp hpl).1; omega
        have hql : qs.length ≤ 64 * 4 := by
          have := dpAll_len hq7
          rw [List.length_map, stepP_len] at this
          rw [this]
          exact Nat.mul_le_mul (by rw [List.length_take]; omega) hm4
        have hb7 := S7 _ _ (S5 _ _ hb0)
        have hrw7 := (hrw0.same S5).same S7
        repeat walk_at "h"
        refine lcq_list (xs := rws) (fun A q H' acc => H7 A = none ∧ Same H7 H' ∧ H' A = some (.lst acc) ∧ DpAll K H' acc (((m.2.take q).map fun r => pl ++ [r.n]).map namesD)) (fun A H' S hA e => ⟨hA, S, e, .nil⟩) (fun A q H' acc _ ⟨_, S, _⟩ => .of (S _ _ hb7)) ?_ ?_
        · rintro A q y H8 acc hy hal _ ⟨hA, S8, eA, hacc⟩
          obtain ⟨dy, hdy, hyd⟩ := dpAll_get (hrw7.same S8) hy
          rw [List.getElem?_map] at hdy
          obtain ⟨rr, hrr, rfl⟩ := Option.map_eq_some_iff.mp hdy
          obtain ⟨ar, g, u, d', t', rfl, hc, _, _, _, _⟩ := row_dp hyd
          have hq4 : q < 4 := by have := (List.getElem?_eq_some_iff.mp hrr).1; omega
          have hap8 := S8.seqT hap
          have hpll : pl.length ≤ 3 := by
            have := dpAll_len (hz5.same S7)
            have h9 := List.mem_of_getElem? hpl
            exact Nat.le_trans (Nat.le_of_eq (hPlen pl h9)) (by omega)
          repeat walk_at "h"
          refine ⟨rfl, ?_⟩
          repeat walk_at "h"
          rename_i t9 H9 S9 t90 et9
          refine i_catA (S9.seqT hap8) (.of et9) (by rw [List.length_map]; exact Nat.le_trans (show pl.length + 1 ≤ 4 by omega) (by decide)) fun pp H10 S10 hpp => ?_
          have S810 := S9.trans S10
          refine turn_end (S810 _ _ eA) hal (by omega) fun H11 B11 e11 => ?_
          refine ⟨hA, Same.ext (S8.trans S810) hA B11, e11, ?_⟩
          rw [List.take_add_one, hrr, List.map_append, List.map_append]
          refine dpAll_snoc (dpAll_butN (S810 _ _ eA) trivial B11 (noL_map noL_names _) (hacc.same S810)) (dp_butN (S810 _ _ eA) trivial B11 (noL_names _) (dp_names (ns := pl ++ [rr.n]) (by rw [List.map_append]; exact hpp)))
        · rintro A H8 acc hal _ ⟨hA, S8, eA, hacc⟩
          rw [hrwl, List.take_length] at hacc
          have nlA : lg ≠ A := ne_of_none elg7 hA
          repeat walk_at "h"
          refine i_extL (S8 _ _ elg7) eA (by rw [hal, hrwl]; exact Nat.le_trans (Nat.add_le_add hql hm4) (by decide)) fun H9 B9 e9 => ?_
          refine ⟨_, _, _, rfl, Same.ext (S7.trans S8) lg0 B9, e9, ?_⟩
          rw [stepP_take hpl, List.map_append]
          exact dpAll_app (dpAll_butN (S8 _ _ elg7) trivial B9 (noL_map noL_names _) (hq7.same S8)) (dpAll_butN (S8 _ _ elg7) trivial B9 (noL_map noL_names _) hacc)
      · rintro σ' H7 ⟨u6, u7, qs, rfl, S7, elg7, hq7⟩
        rw [hzl, List.take_length] at hq7
        repeat walk_at "h"
        exact ⟨_, _, _, _, _, _, _, _, lg, qs, rfl, S5.trans S7, hlg0, elg7, hq7, S7 _ _ eo5, S7 _ _ et5⟩
    · rintro σ' H5 ⟨w3, w4, w5, w6, w7, w8, w9, w10, r, zs, rfl, S5, hr0, er5, hz5, eo5, et5⟩
      rw [hxl, List.take_length] at hz5
      have ed5 := S5 _ _ ed
      repeat walk_at "h"
      have hPP := (hPb L.meters.length (Nat.le_refl _))
      rw [List.take_length] at hPP
      have hPL : (placesOf L.meters).length ≤ 64 := Nat.le_trans hPP.1 (Nat.le_trans (Nat.pow_le_pow_right (by decide) hlenL) (by decide))
      refine forq_list (xs := ys) (fun i σ' H' => ∃ (u3 u4 u5 u6 u7 u8 u9 u10 : Option V) (o : Addr) (os : List V), σ' = [some (.ref d), some (.ref r), some (.ref o), u3, u4, u5, u6, u7, u8, u9, u10] ∧ Same H5 H' ∧ H o = none ∧ H' o = some (.lst os) ∧ DpAll K H' os ((choicesOf (L.loads.take i)).map namesD)) ⟨_, _, _, _, _, _, _, _, o1, _, rfl, .refl _, hof, eo5, nil1 et5⟩ (fun i σ' H' _ ⟨_, _, _, _, _, _, _, _, _, _, _, S, _⟩ => .of (S _ _ (S5 _ _ els))) ?_ ?_
      · rintro i x σ' H6 hx ⟨u3, u4, u5, u6, u7, u8, u9, u10, o, os, rfl, S6, ho0, eo6, hoc6⟩
        obtain ⟨dy, hdy, hyd⟩ := dpAll_get (hls.same (S5.trans S6)) hx
        rw [List.getElem?_map] at hdy
        obtain ⟨l, hl, rfl⟩ := Option.map_eq_some_iff.mp hdy
        obtain ⟨al, g, rfl, hal2, hg⟩ := load_dp hyd
        have hi2 := (List.getElem?_eq_some_iff.mp hl).1
        obtain ⟨hCl, hClen⟩ := hCb i (by omega)
        have hstep : choicesOf (L.loads.take (i + 1)) = stepC (choicesOf (L.loads.take i)) l.1 := by rw [choicesOf_take hi2, (List.getElem?_eq_some_iff.mp hl).2]
        have hC4 : (choicesOf (L.loads.take i)).length ≤ 4 := by rw [hCl]; exact Nat.le_trans (Nat.pow_le_pow_right (by decide) (show i ≤ 2 by omega)) (by decide)
        have hol : os.length = (choicesOf (L.loads.take i)).length := by have := dpAll_len hoc6; rwa [List.length_map] at this
        rw [hstep]
        generalize choicesOf (L.loads.take i) = CC at *
        repeat walk_at "h"
        refine lcq_list (xs := os) (fun A q H' acc => H6 A = none ∧ Same H6 H' ∧ H' A = some (.lst acc) ∧ DpAll K H' acc (((CC.take q).map fun c => c ++ [l.1]).map namesD)) (fun A H' S hA e => ⟨hA, S, e, .nil⟩) (fun A q H' acc _ ⟨_, S, _⟩ => .of (S _ _ eo6)) ?_ ?_
        · rintro A q y H7 acc hy hal _ ⟨hA, S7, eA, hacc⟩
          obtain ⟨dz, hdz, hzd⟩ := dpAll_get (hoc6.same S7) hy
          rw [List.getElem?_map] at hdz
          obtain ⟨cl, hcl, rfl⟩ := Option.map_eq_some_iff.mp hdz
          obtain ⟨ac, rfl, hac⟩ := names_dp hzd
          have hq4 : q < 4 := by have := (List.getElem?_eq_some_iff.mp hcl).1; omega
          have hcll := hClen cl (List.mem_of_getElem? hcl)
          repeat walk_at "h"
          refine ⟨rfl, ?_⟩
          repeat walk_at "h"
          rename_i t9 H9 S9 t90 et9
          refine i_catA (S9.seqT hac) (.of et9) (by rw [List.length_map]; exact Nat.le_trans (show cl.length + 1 ≤ 4 by omega) (by decide)) fun pp H10 S10 hpp => ?_
          have S710 := S9.trans S10
          refine turn_end (S710 _ _ eA) hal (by omega) fun H11 B11 e11 => ?_
          refine ⟨hA, Same.ext (S7.trans S710) hA B11, e11, ?_⟩
          rw [List.take_add_one, hcl, List.map_append, List.map_append]
          refine dpAll_snoc (dpAll_butN (S710 _ _ eA) trivial B11 (noL_map noL_names _) (hacc.same S710)) (dp_butN (S710 _ _ eA) trivial B11 (noL_names _) (dp_names (ns := cl ++ [l.1]) (by rw [List.map_append]; exact hpp)))
        · rintro A H7 acc hal _ ⟨hA, S7, eA, hacc⟩
          rw [hol, List.take_length] at hacc
          refine i_catL (S7 _ _ eo6) eA (by rw [hal, hol]; exact Nat.le_trans (Nat.add_le_add hC4 hC4) (by decide)) fun o2 H8 S8 o20 eo2 => ?_
          have S68 := S7.trans S8
          repeat walk_at "h"
          refine ⟨_, _, _, _, _, _, _, _, o2, _, rfl, S6.trans S68, (S5.trans (S6.trans S7)).free o20, eo2, ?_⟩
          unfold stepC
          rw [List.map_append]
          exact dpAll_app (hoc6.same S68) (hacc.same S8)
      · rintro σ' H6 ⟨u3, u4, u5, u6, u7, u8, u9, u10, o, os, rfl, S6, ho0, eo6, hoc6⟩
        rw [hyl, List.take_length] at hoc6
        have hCl := (hCb L.loads.length (Nat.le_refl _)).1
        rw [List.take_length] at hCl
        have hC4 : (choicesOf L.loads).length ≤ 4 := by rw [hCl]; exact Nat.le_trans (Nat.pow_le_pow_right (by decide) hlen2) (by decide)
        have hol : os.length = (choicesOf L.loads).length := by have := dpAll_len hoc6; rwa [List.length_map] at this
        have er6 := S6 _ _ er5
        have hz6 := hz5.same S6
        have hzl : zs.length = (placesOf L.meters).length := by have := dpAll_len hz6; rwa [List.length_map] at this
        have hraw : rawSettings L = (placesOf L.meters).flatMap fun p => (choicesOf L.loads).map fun c => (p, c) := rfl
        repeat walk_at "h"
        rename_i fd' H7 S7 fd0 efd
        have hfd0 : H fd' = none := (S5.trans S6).free fd0
        repeat walk_at "h"
        refine forq_list (xs := zs) (fun j σ' H' => ∃ (v3 v4 v5 v6 v7 v8 v10 : Option V) (qs : List V), σ' = [some (.ref d), some (.ref r), some (.ref o), v3, v4, v5, v6, v7, v8, some (.ref fd'), v10] ∧ Same H6 H' ∧ H' fd' = some (.lst qs) ∧ DpAll K H' qs ((((placesOf L.meters).take j).flatMap fun p => (choicesOf L.loads).map fun c => (p, c)).map settingD)) ⟨_, _, _, _, _, _, _, [], rfl, S7, efd, .nil⟩ (fun j σ' H' _ ⟨_, _, _, _, _, _, _, _, _, S, _⟩ => .of (S _ _ er6)) ?_ ?_
        · rintro j x σ' H8 hx ⟨v3, v4, v5, v6, v7, v8, v10, qs, rfl, S8, efd8, hq8⟩
          obtain ⟨dx, hdx, hxd⟩ := dpAll_get (hz6.same S8) hx
          rw [List.getElem?_map] at hdx
          obtain ⟨pl, hpl, rfl⟩ := Option.map_eq_some_iff.mp hdx
          have hj64 : j < 64 := by have := (List.getElem?_eq_some_iff.mp hpl).1; omega
          have hql : qs.length ≤ 64 * 4 := by
            have := dpAll_len hq8
            rw [List.length_map, pair_len] at this
            rw [this]
            exact Nat.mul_le_mul (by rw [List.length_take]; omega) hC4
          have eo8 := S8 _ _ eo6
          repeat walk_at "h"
          refine lcq_list (xs := os) (fun A q H' acc => H8 A = none ∧ Same H8 H' ∧ H' A = some (.lst acc) ∧ DpAll K H' acc ((((choicesOf L.loads).take q).map fun c => (pl, c)).map settingD)) (fun A H' S hA e => ⟨hA, S, e, .nil⟩) (fun A q H' acc _ ⟨_, S, _⟩ => .of (S _ _ eo8)) ?_ ?_
          · rintro A q y H9 acc hy hal _ ⟨hA, S9, eA, hacc⟩
            obtain ⟨dz, hdz, hzd⟩ := dpAll_get ((hoc6.same S8).same S9) hy
            rw [List.getElem?_map] at hdz
            obtain ⟨cl, hcl, rfl⟩ := Option.map_eq_some_iff.mp hdz
            have hq4 : q < 4 := by have := (List.getElem?_eq_some_iff.mp hcl).1; omega
            repeat walk_at "h"
            refine ⟨rfl, ?_⟩
            repeat walk_at "h"
            rename_i t9 H10 S10 t90 et9
            refine turn_end (S10 _ _ eA) hal (by omega) fun H11 B11 e11 => ?_
            refine ⟨hA, Same.ext (S9.trans S10) hA B11, e11, ?_⟩
            rw [List.take_add_one, hcl, List.map_append, List.map_append]
            exact dpAll_snoc (dpAll_butN (S10 _ _ eA) trivial B11 (noL_map noL_setting _) (hacc.same S10)) (dp_butN (S10 _ _ eA) trivial B11 (noL_setting _) (.tup (.of et9) (.cons ((hxd.same S9).same S10) (.cons (hzd.same S10) .nil))))
          · rintro A H9 acc hal _ ⟨hA, S9, eA, hacc⟩
            rw [hol, List.take_length] at hacc
            repeat walk_at "h"
            refine i_extL (S9 _ _ efd8) eA (by rw [hal, hol]; exact Nat.le_trans (Nat.add_le_add hql hC4) (by decide)) fun H10 B10 e10 => ?_
            refine ⟨_, _, _, _, _, _, _, _, rfl, Same.ext (S8.trans S9) fd0 B10, e10, ?_⟩
            rw [List.take_add_one, hpl, List.flatMap_append, List.map_append]
            refine dpAll_app (dpAll_butN (S9 _ _ efd8) trivial B10 (noL_map noL_setting _) (hq8.same S9)) (dpAll_butN (S9 _ _ efd8) trivial B10 (noL_map noL_setting _) ?_)
            simpa using hacc
        · rintro σ' H8 ⟨v3, v4, v5, v6, v7, v8, v10, qs, rfl, S8, efd8, hq8⟩
          rw [hzl, List.take_length, ← hraw] at hq8
          obtain ⟨ks, rfl, hks, hka⟩ := keyed hq8
          have hkl : ks.length = (rawSettings L).length := by have := congrArg List.length hks; rwa [List.length_map, List.length_map] at this
          repeat walk_at "h"
          refine i_setK (.of efd8) hka (by omega) fun sa SL H9 S9 sa0 esa hsub hall hnd => ?_
          have hin : ∀ q ∈ SL, ∃ s ∈ rawSettings L, q.2 = settK s := fun q hq => by
            have h1 : q.2 ∈ ks.map (·.2) := List.mem_map.mpr ⟨q, hsub q hq, rfl⟩
            rw [hks] at h1
            obtain ⟨s, hs, e⟩ := List.mem_map.mp h1
            exact ⟨s, hs, e.symm⟩
          repeat walk_at "h"
          refine i_sortK esa (fun q hq => (hka q (hsub q hq)).same S9) (fun q hq => ?_) (alike_keys hin) fun M mr H10 hM S10 mr0 emr => ?_
          · obtain ⟨s, _, e⟩ := hin q hq
            rw [e]
            exact data_tuple
          have hop : (ordK M).Perm M := List.mergeSort_perm _ _
          obtain ⟨ts, hts, htin, htl⟩ := unkeyed (K := K) (H := H10) (ss := rawSettings L) (M := ordK M) fun q hq => by
            have hqS : q ∈ SL := hM.mem_iff.mp (hop.mem_iff.mp hq)
            exact ⟨((hka q (hsub q hqS)).same S9).same S10, hin q hqS⟩
          have hSLlen : SL.length ≤ (rawSettings L).length := by
            have h1 := nat_nodup_len' hnd (fun x hx => by
              obtain ⟨q, hq, rfl⟩ := List.mem_map.mp hx
              obtain ⟨s, hs, e⟩ := hin q hq
              rw [e]
              exact List.mem_map.mpr ⟨s, hs, rfl⟩ : ∀ x ∈ SL.map (·.2), x ∈ (rawSettings L).map settK)
            rwa [List.length_map, List.length_map] at h1
          have hlen : ts.length = SL.length := by rw [htl, hop.length_eq, hM.length_eq]
          refine k mr H10 _ ts (S5.trans (S6.trans (S8.trans (S9.trans S10)))) ((S5.trans (S6.trans (S8.trans S9))).free mr0) emr hts (fun t ht => mem_raw.mp (htin t ht)) ?_ (by omega)
          have h0 := inB_first okL
          have h1 := mem_raw.mpr h0
          have h2 : settK (firstOf L, []) ∈ ks.map (·.2) := by rw [hks]; exact List.mem_map.mpr ⟨_, h1, rfl⟩
          obtain ⟨q, hq, _⟩ := List.mem_map.mp h2
          have h3 := hall q hq
          obtain ⟨q2, hq2, _⟩ := List.mem_map.mp h3
          have := List.length_pos_of_mem hq2
          omega
theorem sc__law_draw : FnScope ["_law_lore_here", "_law_setting", "_law_found", "_law_row", "_law_name", "_law_load"] ["_law_lore_here", "_law_setting"] (defScope s__law_draw) := ⟨rfl, rfl, rfl, by decide +kernel, rfl, by decide +kernel, by decide +kernel⟩
theorem ok__law_draw (T : Tx K mg) : FnAt P w K mg base CX0 4 (He.ga K "_law_draw") ["_law_lore_here", "_law_setting"] (spDrawL K) := by
  refine T.f__law_draw.f.ok sc__law_draw ?_ (fun cdv A outer s H vs Q E hr h => ?_)
  · walk_at "len"
  · obtain ⟨d, F, L, x, s', rfl, hL, okL, hx, hs, k⟩ := h
    have hx0 := hx
    have hL0 := hL
    obtain ⟨ms, ls, xs, ys, fd, fms, fls, ed, ems, hms, els, hls⟩ := hL
    obtain ⟨a, vs, rfl, ha, hvs⟩ := dp_tup hx
    obtain ⟨v1, vs, rfl, hv1, hvs⟩ := dpAll_cons hvs
    obtain ⟨v2, vs, rfl, hv2, hvs⟩ := dpAll_cons hvs
    cases dpAll_nil hvs
    obtain ⟨a2, rfl, ha2⟩ := names_dp hv2
    refine ⟨_, (pss_cons (ps_set (i := 2) sc__law_draw.nd rfl (.inl rfl) (pe_tup (pa_cons pe_int (pa_cons pe_int pa_nil))))
      (pss_cons (ps_for PassesOwn.never rfl (pi_list (pe_fn T.f__law_rows (ok__law_rows T) (hr.mono (by decide)) (pa_cons (pv 0) (pa_cons (pv 1) pa_nil)))) (pg_name (i := 3) sc__law_draw.nd rfl (.inl rfl)) (pss_one (ps_set (i := 2) sc__law_draw.nd rfl (.inl rfl) (pe_fn T.f__law_plus (ok__law_plus T) (hr.mono (by decide)) (pa_cons (pv 2) (pa_cons (pe_ix ix_seq (pv 3) pe_int (fun _ _ => rfl)) pa_nil))))))
      (pss_cons (ps_for PassesOwn.never rfl (pi_list (pe_dget (hu_of hr) (pv 0) pe_str (fun _ _ => rfl))) (pg_tup rfl (pgs_cons (pg_name (i := 4) sc__law_draw.nd rfl (.inl rfl)) (pgs_cons (pg_name (i := 5) sc__law_draw.nd rfl (.inl rfl)) pgs_nil))) (pss_one (ps_set (i := 2) sc__law_draw.nd rfl (.inl rfl) (pe_ifExp (pt_cmpR op_in_seq (pv 4) (pe_ix ix_seq (pv 1) pe_int (fun _ _ => rfl)) (by with_unfolding_all rfl)) (pe_fn T.f__law_plus (ok__law_plus T) (hr.mono (by decide)) (pa_cons (pv 2) (pa_cons (pv 5) pa_nil))) (pv 2)))))
      (pss_one (ps_ret (pv 2)))))), ?_⟩
    refine My.i_go (σ' := [some _, some _, none, none, none, none]) rfl ?_
    repeat walk_at "h"
    rename_i z1 H1 S1 z10 ez1
    refine ⟨d, F, L, _, s', rfl, hL0.same S1, okL, hx0.same S1, hs, fun rf H2 zs S2 rf0 erf hzs => ?_⟩
    repeat walk_at "h"
    have S02 := S1.trans S2
    have hzl : zs.length = (rowsAt L s').length := by have := dpAll_len hzs; rwa [List.length_map] at this
    have hr3 := rowsAt_len okL s'
    refine forq_list (xs := zs) (fun i σ' H' => ∃ (p : Addr) (w3 w4 w5 : Option V), σ' = [some (.ref d), some (.ref a), some (.ref p), w3, w4, w5] ∧ Same H2 H' ∧ SqT K H' p (rat (sumQ (((rowsAt L s').map (·.G)).take i)))) ⟨_, none, none, none, rfl, .refl _, .of (S2 _ _ ez1)⟩ (fun i σ' H' _ ⟨_, _, _, _, _, S, _⟩ => .of (S _ _ erf)) ?_ ?_
    · rintro i y σ' H' hy ⟨p, w3, w4, w5, rfl, S, hp⟩
      obtain ⟨dy, hdy, hyd⟩ := dpAll_get (hzs.same S) hy
      rw [List.getElem?_map] at hdy
      obtain ⟨r2, hr2, rfl⟩ := Option.map_eq_some_iff.mp hdy
      obtain ⟨ar, g, u, d', t2, rfl, hc, hg, _, _, _⟩ := row_dp hyd
      obtain ⟨ah, rok⟩ := rowsAt_ok okL (List.mem_of_getElem? hr2)
      have z1 := (sum_pre okL s' i).1
      obtain ⟨ag, rfl, hag⟩ := rat_dp hg
      repeat walk_at "h"
      refine ⟨_, _, _, _, 76, rfl, hp, hag, z1, rok.g.sz14.mono (by decide), by decide, trivial, fun r H3 S3 r0 e3 => ?_⟩
      have e3 : H3 r = some (.tup (rat (sumQ (((rowsAt L s').map (·.G)).take (i + 1))))) := by
        rw [sumQ_take (q := r2.G) (by rw [List.getElem?_map, hr2]; rfl)]
        exact e3
      repeat walk_at "h"
      exact ⟨_, _, _, _, rfl, S.trans S3, .of e3⟩
    · rintro σ' H' ⟨p, w3, w4, w5, rfl, S, hp⟩
      rw [hzl, List.take_of_length_le (by rw [List.length_map]; exact Nat.le_refl _)] at hp
      have S0 := S02.trans S
      have ha9 := S0.seqT ha
      have ed9 := S0 _ _ ed
      repeat walk_at "h"
      have ha29 := S0.seqT ha2
      have els9 := S0 _ _ els
      have hyl : ys.length = L.loads.length := by have := dpAll_len hls; rwa [List.length_map] at this
      have hl2 := okL.l2
      refine forq_list (xs := ys) (fun i σ' H2 => ∃ (p : Addr) (w4 w5 : Option V), σ' = [some (.ref d), some (.ref a), some (.ref p), w3, w4, w5] ∧ Same H' H2 ∧ SqT K H2 p (rat (sumQ ((rowsAt L s').map (·.G) ++ ((L.loads.take i).filter fun l => decide (l.1 ∈ s'.2)).map (·.2))))) ⟨_, w4, w5, rfl, .refl _, by rw [List.take_zero]; show SqT K H' p (rat (sumQ (_ ++ []))); rw [List.append_nil]; exact hp⟩ (fun i σ' H' _ ⟨_, _, _, _, S, _⟩ => .of (S _ _ els9)) ?_ ?_
      · rintro i y σ' H3 hy ⟨p2, w4', w5', rfl, S2, hp2⟩
        obtain ⟨dy, hdy, hyd⟩ := dpAll_get ((hls.same S0).same S2) hy
        rw [List.getElem?_map] at hdy
        obtain ⟨l, hl, rfl⟩ := Option.map_eq_some_iff.mp hdy
        obtain ⟨al, g, rfl, hal2, hg⟩ := load_dp hyd
        obtain ⟨ag, rfl, hag⟩ := rat_dp hg
        have lok := (okL.ln l (List.mem_of_getElem? hl)).2
        have ha3 := S2.seqT ha9
        have ha23 := S2.seqT ha29
        have zz := sum_filt okL s' i
        have step := sum_filt_succ (s := s') (qs := (rowsAt L s').map (·.G)) hl
        repeat walk_at "h"
        refine ⟨a2, _, rfl, .inr ha23, rfl, My.flat_strs _, ?_⟩
        rw [show (if false = true then !inV (.str l.1) (s'.2.map V.str) else inV (.str l.1) (s'.2.map V.str)) = decide (l.1 ∈ s'.2) from inV_dec _ _]
        refine ⟨_, rfl, ?_⟩
        refine ite2 (fun c => ?_) (fun c => ?_)
        · have c : l.1 ∈ s'.2 := of_decide_eq_true c
          rw [if_pos c] at step
          repeat walk_at "h"
          refine ⟨_, _, _, _, 76, rfl, hp2, hag, zz, lok.sz14.mono (by decide), by decide, trivial, fun r H4 S4 r0 e4 => ?_⟩
          repeat walk_at "h"
          exact ⟨_, _, _, rfl, S2.trans S4, .of (by rw [step]; exact e4)⟩
        · have c : ¬ l.1 ∈ s'.2 := fun z => c (decide_eq_true z)
          rw [if_neg c] at step
          repeat walk_at "h"
          exact ⟨_, _, _, rfl, S2, by rw [step]; exact hp2⟩
      · rintro σ' H3 ⟨p2, w4', w5', rfl, S2, hp2⟩
        repeat walk_at "h"
        refine k p2 H3 (S0.trans S2) ?_
        rw [hyl, List.take_length] at hp2
        exact hp2
theorem sc__law_read : FnScope ["_law_heft", "_law_source_here"] ["_law_heft", "_law_source_here"] (defScope s__law_read) := ⟨rfl, rfl, rfl, by decide +kernel, rfl, by decide +kernel, by decide +kernel⟩
theorem ok__law_read (T : Tx K mg) : FnAt P w K mg base CX0 4 (He.ga K "_law_read") ["_law_heft", "_law_source_here"] (spReadL K) := by
  refine T.f__law_read.f.ok sc__law_read ?_ (fun cdv A outer s H vs Q E hr h => ?_)
  · walk_at "len"
  · obtain ⟨g, t, v, r, q, rfl, hg, ⟨av, ao, ht, hv, ho, v0, r0, zv, zr⟩, zq, q0, k⟩ := h
    refine ⟨_, (pss_one (ps_ret (pe_fn T.f__law_over (ok__law_over T) (hr.mono (by decide)) (pa_cons (pe_ix ix_seq (pv 1) pe_int (fun _ _ => rfl)) (pa_cons (pe_fn T.f__law_plus (ok__law_plus T) (hr.mono (by decide)) (pa_cons (pe_tup (pa_cons pe_int (pa_cons pe_int pa_nil))) (pa_cons (pe_fn T.f__law_times (ok__law_times T) (hr.mono (by decide)) (pa_cons (pe_ix ix_seq (pv 1) pe_int (fun _ _ => rfl)) (pa_cons (pv 0) pa_nil))) pa_nil))) pa_nil))))), ?_⟩
    refine My.i_go (σ' := [some _, some _]) rfl ?_
    repeat walk_at "h"
    rename_i p1 H1 S1 p10 e1
    have z1 : Sz 91 (r * q) := (zr.mul2 zq).mono (by decide)
    have z2 : Sz 91 (1 + r * q) := (zr.mul2 zq).one_add (by decide)
    refine ⟨_, _, r, q, 76, rfl, S1.seqT ho, S1.seqT hg, zr.mono (by decide), zq, by decide, trivial, fun p2 H2 S2 p20 e2 => ?_⟩
    repeat walk_at "h"
    refine ⟨_, _, 1, _, 91, rfl, .of (S2 _ _ e1), .of e2, sz_one (by decide), z1, by decide, trivial, fun p3 H3 S3 p30 e3 => ?_⟩
    repeat walk_at "h"
    have S02 := S1.trans S2
    have S03 := S02.trans S3
    refine ⟨_, _, v, _, 120, rfl, S03.seqT hv, .of e3, zv, z2.mono (by decide), by decide, one_pos r0 q0, fun p4 H4 S4 p40 e4 => ?_⟩
    exact k p4 H4 (S03.trans S4) (S03.free p40) e4
theorem sc__law_source : FnScope ["_law_pot_here", "_law_volts"] ["_law_pot_here"] (defScope s__law_source) := ⟨rfl, rfl, rfl, by decide +kernel, rfl, by decide +kernel, by decide +kernel⟩
theorem ok__law_source (T : Tx K mg) : FnAt P w K mg base CX0 4 (He.ga K "_law_source") ["_law_pot_here"] (spSrcDraw K) := by
  refine T.f__law_source.f.ok sc__law_source ?_ (fun cdv A outer s H vs Q E hr h => ?_)
  · walk_at "len"
  · obtain ⟨p, n, rfl, hP, hn, k⟩ := h
    refine ⟨_, (pss_cons (ps_set (i := 1) sc__law_source.nd rfl (.inl rfl) (pe_fn T.f__law_pair (ok__law_pair T) (hr.mono (by decide)) (pa_cons (pe_fn T.f__law_of (ok__law_of T) (hr.mono (by decide)) (pa_cons (pv 0) (pa_cons (pe_lst (pa_cons (pe_fn T.f__law_take (ok__law_take T) (hr.mono (by decide)) (pa_cons (pv 0) (pa_cons pe_int pa_nil))) (pa_cons (pe_fn T.f__law_take (ok__law_take T) (hr.mono (by decide)) (pa_cons (pv 0) (pa_cons pe_int pa_nil))) (pa_cons pe_int pa_nil)))) pa_nil))) (pa_cons (pe_op op_add pe_int (pe_fn T.f__law_take (ok__law_take T) (hr.mono (by decide)) (pa_cons (pv 0) (pa_cons pe_int pa_nil)))) pa_nil))))
      (pss_one (ps_ret (pe_tup (pa_cons (pv 1) (pa_cons (pe_fn T.f__law_pair (ok__law_pair T) (hr.mono (by decide)) (pa_cons (pe_fn T.f__law_of (ok__law_of T) (hr.mono (by decide)) (pa_cons (pv 0) (pa_cons (pe_lst (pa_cons (pe_fn T.f__law_take (ok__law_take T) (hr.mono (by decide)) (pa_cons (pv 0) (pa_cons pe_int pa_nil))) (pa_cons (pe_fn T.f__law_take (ok__law_take T) (hr.mono (by decide)) (pa_cons (pv 0) (pa_cons pe_int pa_nil))) (pa_cons pe_int pa_nil)))) pa_nil))) (pa_cons (pe_op op_add pe_int (pe_fn T.f__law_take (ok__law_take T) (hr.mono (by decide)) (pa_cons (pv 0) (pa_cons pe_int pa_nil)))) pa_nil))) pa_nil)))))), ?_⟩
    refine My.i_go (σ' := [some _, none]) rfl ?_
    repeat walk_at "h"
    refine ⟨p, 40, n, rfl, hP, by omega, by decide, by decide, fun r1 H1 r10 r11 P1 B1 => ?_⟩
    repeat walk_at "h"
    refine ⟨p, 400, n + 1, rfl, P1, by omega, by decide, by decide, fun r2 H2 r20 r21 P2 B2 => ?_⟩
    repeat walk_at "h"
    rename_i l3 H3 S3 l30 el3
    refine ⟨p, l3, _, n + 1 + 1, rfl, P2.same S3, by omega, (P2.ne l30).symm, .of el3, by show 0 < 3; decide, by show 3 < 1000000; decide, fun v H4 hv P4 B4 => ?_⟩
    obtain ⟨i, rfl, i0, i1⟩ : ∃ i : Int, v = .int i ∧ 0 ≤ i ∧ i < 400 := by
      simp only [List.mem_cons, List.not_mem_nil, or_false] at hv
      rcases hv with rfl | rfl | rfl
      · exact ⟨_, rfl, r10, by omega⟩
      · exact ⟨_, rfl, r20, r21⟩
      · exact ⟨_, rfl, by decide, by decide⟩
    repeat walk_at "h"
    refine ⟨p, 4, n + 1 + 1 + 1, rfl, P4, by omega, by decide, by decide, fun r5 H5 r50 r51 P5 B5 => ?_⟩
    repeat walk_at "h"
    refine ⟨i, 1 + r5, rfl, by omega, by omega, by omega, fun p6 H6 S6 p60 e6 => ?_⟩
    obtain ⟨zv, v0⟩ := small_pair i0 (show i < 16000 by omega) (show 0 < 1 + r5 by omega) (by omega)
    have P6 := P5.same S6
    have B06 : But p H H6 := ((((B1.trans B2).trans S3.but).trans B4).trans B5).trans S6.but
    clear el3 P5 P4 P2 P1 hv
    repeat walk_at "h"
    refine ⟨p, 6, n + 1 + 1 + 1 + 1, rfl, P6, by omega, by decide, by decide, fun r7 H7 r70 r71 P7 B7 => ?_⟩
    repeat walk_at "h"
    refine ⟨p, 40, n + 1 + 1 + 1 + 1 + 1, rfl, P7, by omega, by decide, by decide, fun r8 H8 r80 r81 P8 B8 => ?_⟩
    repeat walk_at "h"
    rename_i l9 H9 S9 l90 el9
    refine ⟨p, l9, _, n + 1 + 1 + 1 + 1 + 1 + 1, rfl, P8.same S9, by omega, (P8.ne l90).symm, .of el9, by show 0 < 3; decide, by show 3 < 1000000; decide, fun v H10 hv P10 B10 => ?_⟩
    obtain ⟨o, rfl, o0, o1⟩ : ∃ i : Int, v = .int i ∧ 0 ≤ i ∧ i < 400 := by
      simp only [List.mem_cons, List.not_mem_nil, or_false] at hv
      rcases hv with rfl | rfl | rfl
      · exact ⟨_, rfl, r70, by omega⟩
      · exact ⟨_, rfl, r80, by omega⟩
      · exact ⟨_, rfl, by decide, by decide⟩
    repeat walk_at "h"
    refine ⟨p, 4, n + 1 + 1 + 1 + 1 + 1 + 1 + 1, rfl, P10, by omega, by decide, by decide, fun r11 H11 r110 r111 P11 B11 => ?_⟩
    repeat walk_at "h"
    refine ⟨o, 1 + r11, rfl, by omega, by omega, by omega, fun p12 H12 S12 p120 e12 => ?_⟩
    obtain ⟨zo, oo⟩ := small_pair o0 (show o < 16000 by omega) (show 0 < 1 + r11 by omega) (by omega)
    have B612 : But p H6 H12 := ((((B7.trans B8).trans S9.but).trans B10).trans B11).trans S12.but
    have P12 := P11.same S12
    have e62 : SqT K H12 p6 _ := P6.but B612 (.of e6)
    clear el9 P11 P10 P8 P7 hv
    repeat walk_at "h"
    rename_i p13 H13 S13 p130 e13
    exact k p13 H13 _ _ ((B06.trans B612).trans S13.but) ((P12.same S13).mono (by omega)) ⟨_, _, .of e13, S13.seqT e62, .of (S13 _ _ e12), v0, oo, zv.mono (by decide), zo⟩
theorem sc_Source_at : FnScope ["self", "load"] ["self", "load"] (defScope s_Source_at) := ⟨rfl, rfl, rfl, by decide +kernel, rfl, by decide +kernel, by decide +kernel⟩
theorem ok_Source_at (T : Tx K mg) : FnAt P w K mg base CX0 4 (He.ma K (He.ga K "Source") "at") ["self", "load"] (spAt K (He.ga K "Source")) := by
  refine T.d_Source_at.f.ok sc_Source_at ?_ (fun cdv A outer s H vs Q E hr h => ?_)
  · walk_at "len"
  · obtain ⟨x, b, v, r, g, j, rfl, ⟨dx, c, d, hx, hv, hr1, v0, r0⟩, hb, zv, zr, zg, hj, g0, k⟩ := h
    have hc := T.c_Source; have n1 := T.a_Source__volts; have n2 := T.a_Source__ohms
    refine ⟨_, (pss_one (ps_ret (pe_fn T.f_over (ok_over T) (hr.mono (by decide)) (pa_cons (pe_fld (pv 0) rfl) (pa_cons (pe_fn T.f_weakening (ok_weakening T) (hr.mono (by decide)) (pa_cons (pe_fld (pv 0) rfl) (pa_cons (pv 1) pa_nil))) pa_nil))))), ?_⟩
    refine My.i_go (σ' := [some _, some _]) rfl ?_
    repeat walk_at "h"
    refine ⟨_, _, _, _, j, rfl, hr1, hb, zr, zg, by omega, r0, g0, fun p H1 S hp e => ?_⟩
    refine ⟨_, _, _, _, 2 * j + 2 * j + 3, rfl, S.seqT hv, .of e, zv.mono (by omega), zr.weak zg, by omega, one_pos r0 g0, fun q H2 S2 hq e2 => ?_⟩
    exact k q H2 (S.trans S2) (S.free hq) e2
theorem sc_Source___ge__ : FnScope ["self", "other"] ["self", "other"] (defScope s_Source___ge__) := ⟨rfl, rfl, rfl, by decide +kernel, rfl, by decide +kernel, by decide +kernel⟩
theorem ok_Source___ge__ (T : Tx K mg) : FnAt P w K mg base CX0 4 (He.ma K (He.ga K "Source") "__ge__") ["self", "other"] (spSrcCmp K (He.ga K "Source") strong) := by
  refine T.o_Source___ge__.f.ok sc_Source___ge__ ?_ (fun cdv A outer s H vs Q E hr h => ?_)
  · walk_at "len"
  · obtain ⟨s1, s2, v, r, w1, u, j, rfl, h1, h2, zv, zr, zw, zu, hj, k⟩ := h
    obtain ⟨dy, c, d, e2, hw, hu1, w0, u0⟩ := id h2
    refine ⟨_, (pss_cons (ps_if (pt_not (pt_val (pe_callB call_isi rfl T.b_isinstance (by decide +kernel) (pa_cons (pv 1) (pa_cons (pe_glob (v := .ref _) rfl T.k_Source.m rfl) pa_nil))))) (pss_one ps_never) pss_nil)
      (pss_one (ps_ret (pe_fn T.f_covers (ok_covers T) (hr.mono (by decide)) (pa_cons (pv 0) (pa_cons (pv 1) pa_nil)))))), ?_⟩
    refine My.i_go (σ' := [some _, some _]) rfl ?_
    repeat walk_at "h"
    refine i_isiS e2 T.c_Source T.y_Source ?_
    repeat walk_at "h"
    exact ⟨_, _, _, _, _, _, j, rfl, h1, h2, zv, zr, zw, zu, hj, k⟩
theorem sc_Source___le__ : FnScope ["self", "other"] ["self", "other"] (defScope s_Source___le__) := ⟨rfl, rfl, rfl, by decide +kernel, rfl, by decide +kernel, by decide +kernel⟩
theorem ok_Source___le__ (T : Tx K mg) : FnAt P w K mg base CX0 4 (He.ma K (He.ga K "Source") "__le__") ["self", "other"] (spSrcCmp K (He.ga K "Source") fun v r w u => strong w u v r) := by
  refine T.o_Source___le__.f.ok sc_Source___le__ ?_ (fun cdv A outer s H vs Q E hr h => ?_)
  · walk_at "len"
  · obtain ⟨s1, s2, v, r, w1, u, j, rfl, h1, h2, zv, zr, zw, zu, hj, k⟩ := h
    obtain ⟨dy, c, d, e2, hw, hu1, w0, u0⟩ := id h2
    refine ⟨_, (pss_cons (ps_if (pt_not (pt_val (pe_callB call_isi rfl T.b_isinstance (by decide +kernel) (pa_cons (pv 1) (pa_cons (pe_glob (v := .ref _) rfl T.k_Source.m rfl) pa_nil))))) (pss_one ps_never) pss_nil)
      (pss_one (ps_ret (pe_fn T.f_covers (ok_covers T) (hr.mono (by decide)) (pa_cons (pv 1) (pa_cons (pv 0) pa_nil)))))), ?_⟩
    refine My.i_go (σ' := [some _, some _]) rfl ?_
    repeat walk_at "h"
    refine i_isiS e2 T.c_Source T.y_Source ?_
    repeat walk_at "h"
    exact ⟨_, _, _, _, _, _, j, rfl, h2, h1, zw, zu, zv, zr, hj, k⟩
theorem ok_ascending_3 (T : Tx K mg) : FnAt P w K mg base CX0 5 (He.ga K "ascending") ["rows"] (spAsc K 3) := by
  refine T.f_ascending.f.ok sc_ascending ?_ (fun cdv A outer s H vs Q E hr h => ?_)
  · walk_at "len"
  · obtain ⟨a, xs, ds, rfl, hl, hx, nd, hF, h1, h2, k⟩ := h
    have hxl := dpAll_len hx
    refine ⟨_, (pss_cons (ps_if (pt_cmpR op_lt (pe_callB cr_len rfl T.b_len (by decide +kernel) (pa_cons (pv 0) pa_nil)) pe_int (nomark _)) (pss_one (ps_ret (pe_callTy cr_tupN rfl T.b_tuple (by decide +kernel) (pa_cons (pv 0) pa_nil)))) pss_nil)
      (pss_cons (ps_set (i := 1) sc_ascending.nd rfl (.inl rfl) (pe_op op_fdivW (pe_callB cr_len rfl T.b_len (by decide +kernel) (pa_cons (pv 0) pa_nil)) pe_int))
      (pss_one (ps_ret (pe_fn T.f_merged (ok_merged T) (hr.mono (by decide)) (pa_cons (pe_fn T.f_ascending (ok_ascending_2 T) (hr.mono (by decide)) (pa_cons (pe_slice sl_list (pv 0) po_none (po_some (pv 1))) pa_nil)) (pa_cons (pe_fn T.f_ascending (ok_ascending_2 T) (hr.mono (by decide)) (pa_cons (pe_slice sl_list (pv 0) (po_some (pv 1)) po_none) pa_nil)) pa_nil))))))), ?_⟩
    refine My.i_go (σ' := [some _, none]) rfl ?_
    repeat walk_at "h"
    refine i_lenL hl ?_
    repeat walk_at "h"
    refine ite2 (fun hs => ?_) (fun hs => ?_)
    · have hs := of_decide_eq_true hs
      repeat walk_at "h"
      refine i_tupN hl fun p H1 S1 hp e1 => k p H1 S1 ?_
      rw [srt_few (by omega)]
      exact .tup (.of e1) (hx.same S1)
    have hs : ¬ ((xs.length : Int) < 2) := fun z => hs (decide_eq_true z)
    have hs2 : ¬ ds.length < 2 := by omega
    rw [srt_step hs2] at k
    have hp2 := pow2 2
    repeat walk_at "h"
    refine i_lenL hl ?_
    repeat walk_at "h"
    have eh : (xs.length : Int) / 2 = ((ds.length / 2 : Nat) : Int) := by omega
    rw [eh]
    refine i_slL hl fun p1 H1 S1 hp1 e1 => ?_
    rw [cut_to (by omega)] at e1
    repeat walk_at "h"
    refine ⟨p1, _, ds.take (ds.length / 2), rfl, .of e1, dpAll_take _ (hx.same S1), (noLAll_iff _).mpr fun d hd => (noLAll_iff ds).mp nd d (List.mem_of_mem_take hd), hF.sub fun d hd => List.mem_of_mem_take hd, by rw [List.length_take]; omega, by rw [List.length_take]; omega, fun q2 H2 S2 d2 => ?_⟩
    repeat walk_at "h"
    refine i_slL (S2.seq (S1.seq hl)) fun p3 H3 S3 hp3 e3 => ?_
    rw [cut_from (by omega)] at e3
    repeat walk_at "h"
    refine ⟨p3, _, ds.drop (ds.length / 2), rfl, .of e3, dpAll_drop _ (hx.same ((S1.trans S2).trans S3)), (noLAll_iff _).mpr fun d hd => (noLAll_iff ds).mp nd d (List.mem_of_mem_drop hd), hF.sub fun d hd => List.mem_of_mem_drop hd, by rw [List.length_drop]; omega, by rw [List.length_drop]; omega, fun q4 H4 S4 d4 => ?_⟩
    repeat walk_at "h"
    have m2 : ∀ d ∈ srt 2 (ds.take (ds.length / 2)), d ∈ ds := fun d hd => List.mem_of_mem_take (srt_mem _ _ d hd)
    have m4 : ∀ d ∈ srt 2 (ds.drop (ds.length / 2)), d ∈ ds := fun d hd => List.mem_of_mem_drop (srt_mem _ _ d hd)
    refine ⟨q2, q4, _, _, rfl, (d2.same S3).same S4, d4, (noLAll_iff _).mpr fun d hd => (noLAll_iff ds).mp nd d (m2 d hd), (noLAll_iff _).mpr fun d hd => (noLAll_iff ds).mp nd d (m4 d hd), hF.sub fun d hd => ?_, by rw [srt_len, srt_len, List.length_take, List.length_drop]; omega, fun q5 H5 S5 d5 => k q5 H5 ((((S1.trans S2).trans S3).trans S4).trans S5) d5⟩
    rcases List.mem_append.mp hd with hd | hd
    · exact m2 d hd
    · exact m4 d hd
theorem sc_draw_of : FnScope ["bench", "setting", "total", "row", "load"] ["bench", "setting"] (defScope s_draw_of) := ⟨rfl, rfl, rfl, by decide +kernel, rfl, by decide +kernel, by decide +kernel⟩
theorem ok_draw_of (T : Tx K mg) : FnAt P w K mg base CX0 5 (He.ga K "draw_of") ["bench", "setting"] (spDrawOf K (He.ga K "Bench")) := by
  refine T.f_draw_of.f.ok sc_draw_of ?_ (fun cdv A outer s H vs Q E hr h => ?_)
  · walk_at "len"
  · obtain ⟨b, L, x, s', rfl, hB, okL, hx, hs, k⟩ := h
    have hx0 := hx
    obtain ⟨a, xs, rfl, ha, hxs⟩ := dp_tup hx
    obtain ⟨v1, xs, rfl, hv1, hxs⟩ := dpAll_cons hxs
    obtain ⟨v2, xs, rfl, hv2, hxs⟩ := dpAll_cons hxs
    cases dpAll_nil hxs
    obtain ⟨a2, rfl, ha2⟩ := names_dp hv2
    refine ⟨_, (pss_cons (ps_set (i := 2) sc_draw_of.nd rfl (.inl rfl) (pe_glob (v := .ref _) rfl T.m_ZERO rfl))
      (pss_cons (ps_for PassesOwn.never rfl (pi_list (pe_fn T.f_ranges_of (ok_ranges_of T) (hr.mono (by decide)) (pa_cons (pv 0) (pa_cons (pv 1) pa_nil)))) (pg_name (i := 3) sc_draw_of.nd rfl (.inl rfl)) (pss_one (ps_set (i := 2) sc_draw_of.nd rfl (.inl rfl) (pe_fn T.f_plus (ok_plus T) (hr.mono (by decide)) (pa_cons (pv 2) (pa_cons (pe_ix ix_seq (pv 3) pe_int (fun _ _ => rfl)) pa_nil))))))
      (pss_cons (ps_for PassesOwn.never rfl (pi_tup (pe_ix ix_seq (pv 1) pe_int (fun _ _ => rfl))) (pg_name (i := 4) sc_draw_of.nd rfl (.inl rfl)) (pss_one (ps_set (i := 2) sc_draw_of.nd rfl (.inl rfl) (pe_fn T.f_plus (ok_plus T) (hr.mono (by decide)) (pa_cons (pv 2) (pa_cons (pe_me T.c_Bench T.d_Bench_load (ok_Bench_load T) (hr.mono (by decide)) (pv 0) (pa_cons (pv 4) pa_nil)) pa_nil))))))
      (pss_one (ps_ret (pv 2)))))), ?_⟩
    refine My.i_go (σ' := [some _, some _, none, none, none]) rfl ?_
    repeat walk_at "h"
    refine ⟨b, L, _, s', rfl, hB, okL, hx0, hs, fun rf H1 zs S1 rf0 erf hzs => ?_⟩
    repeat walk_at "h"
    have hZ := T.t_ZERO
    have hzl : zs.length = (rowsAt L s').length := by have := dpAll_len hzs; rwa [List.length_map] at this
    have hr3 := rowsAt_len okL s'
    refine forq_list (xs := zs) (fun i σ' H' => ∃ (p : Addr) (w3 w4 : Option V), σ' = [some (.ref b), some (.ref a), some (.ref p), w3, w4] ∧ Same H1 H' ∧ SqT K H' p (rat (sumQ (((rowsAt L s').map (·.G)).take i)))) ⟨_, none, none, rfl, .refl _, hZ H1⟩ (fun i σ' H' _ ⟨_, _, _, _, S, _⟩ => .of (S _ _ erf)) ?_ ?_
    · rintro i y σ' H' hy ⟨p, w3, w4, rfl, S, hp⟩
      obtain ⟨dy, hdy, hyd⟩ := dpAll_get (hzs.same S) hy
      rw [List.getElem?_map] at hdy
      obtain ⟨r2, hr2, rfl⟩ := Option.map_eq_some_iff.mp hdy
      obtain ⟨ar, g, u, d', t2, rfl, hc, hg, _, _, _⟩ := row_dp hyd
      obtain ⟨ah, rok⟩ := rowsAt_ok okL (List.mem_of_getElem? hr2)
      have z1 := (sum_pre okL s' i).1
      obtain ⟨ag, rfl, hag⟩ := rat_dp hg
      repeat walk_at "h"
      refine ⟨_, _, _, _, 76, rfl, hp, hag, z1, rok.g.sz14.mono (by decide), by decide, trivial, fun r H3 S3 r0 e3 => ?_⟩
      have e3 : H3 r = some (.tup (rat (sumQ (((rowsAt L s').map (·.G)).take (i + 1))))) := by
        rw [sumQ_take (q := r2.G) (by rw [List.getElem?_map, hr2]; rfl)]
        exact e3
      repeat walk_at "h"
      exact ⟨_, _, _, rfl, S.trans S3, .of e3⟩
    · rintro σ' H' ⟨p, w3, w4, rfl, S, hp⟩
      rw [hzl, List.take_of_length_le (by rw [List.length_map]; exact Nat.le_refl _)] at hp
      have S01 := S1.trans S
      have ha9 := S01.seqT ha
      repeat walk_at "h"
      have ha29 := S01.seqT ha2
      refine forq_tup (xs := s'.2.map V.str) (fun i σ' H2 => ∃ (p : Addr) (w4 : Option V), σ' = [some (.ref b), some (.ref a), some (.ref p), w3, w4] ∧ Same H' H2 ∧ SqT K H2 p (rat (sumQ ((rowsAt L s').map (·.G) ++ ((onAt L s').map (·.2)).take i)))) ⟨_, w4, rfl, .refl _, by rw [List.take_zero, List.append_nil]; exact hp⟩ (fun i σ' H' _ ⟨_, _, _, S, _⟩ => S.seqT ha29) ?_ ?_
      · rintro i y σ' H2 hy ⟨p2, w4', rfl, S2, hp2⟩
        rw [List.getElem?_map] at hy
        obtain ⟨nm, hnm, rfl⟩ := Option.map_eq_some_iff.mp hy
        have hon := on_names okL hs
        rw [← hon, List.getElem?_map] at hnm
        obtain ⟨l, hl, rfl⟩ := Option.map_eq_some_iff.mp hnm
        have hlm : l ∈ L.loads := (List.mem_filter.mp (List.mem_of_getElem? hl)).1
        have hl2 := (okL.ln l hlm).2
        have z1 := (sum_post okL s' i).1
        have hB9 := hB.same (S01.trans S2)
        repeat walk_at "h"
        refine i_bLoad hB9 ?_
        repeat walk_at "h"
        refine ⟨b, L, l.1, l.2, rfl, hB9, okL.ld, hlm, fun a8 ha8 => ?_⟩
        repeat walk_at "h"
        refine ⟨_, _, _, _, 76, rfl, hp2, ha8, z1, hl2.sz14.mono (by decide), by decide, trivial, fun r H3 S3 r0 e3 => ?_⟩
        have e3 : H3 r = some (.tup (rat (sumQ ((rowsAt L s').map (·.G) ++ ((onAt L s').map (·.2)).take (i + 1))))) := by
          rw [sumQ_more (q := l.2) (by rw [List.getElem?_map, hl]; rfl)]
          exact e3
        repeat walk_at "h"
        exact ⟨_, _, rfl, S2.trans S3, .of e3⟩
      · rintro σ' H2 ⟨p2, w4', rfl, S2, hp2⟩
        repeat walk_at "h"
        refine k p2 H2 (S01.trans S2) ?_
        rw [List.length_map, List.take_of_length_le (by rw [List.length_map, ← on_names okL hs, List.length_map]; exact Nat.le_refl _)] at hp2
        exact hp2
theorem sc_range_of : FnScope ["line", "ranges", "words", "plain", "marks", "name", "row", "told", "mark", "word"] ["line", "ranges"] (defScope s_range_of) := ⟨rfl, rfl, rfl, by decide +kernel, rfl, by decide +kernel, by decide +kernel⟩
theorem ok_range_of (T : Tx K mg) : FnAt P w K mg base CX0 5 (He.ga K "range_of") ["line", "ranges"] (spRangeOf K) := by
  refine T.f_range_of.f.ok sc_range_of ?_ (fun cdv A outer s H vs Q E hr h => ?_)
  · walk_at "len"
  · obtain ⟨r, a, xs, ahead, rfl, ha, hx, hr1, hl3, hlU, k⟩ := h
    have hnm := hr1.nm
    have hw : Txt.split (rowLine r) " " = rowWords r := split_words (by unfold rowWords; simp) (rowWords_free hnm (by decide) (by decide))
    have hwz : (rowLine r).length + 2 ≤ sizeLine := Nat.le_trans (Nat.add_le_add_right (rowLine_le hr1) 2) (by decide)
    refine ⟨_, (pss_cons (ps_set (i := 2) sc_range_of.nd rfl (.inl rfl) (pe_bm PySem.F.plainAttrs_str PySem.F.slot_str_split PySem.F.type_str_split mt_splitN' (pv 0) (pa_cons pe_str pa_nil)))
      (pss_cons (ps_set (i := 3) sc_range_of.nd rfl (.inl rfl) (pe_ifExp (pt_truth (pv 1) (by intro _; rfl)) (pe_lst (pa_cons pe_str (pa_cons pe_str (pa_cons pe_str pa_nil)))) (pe_lst (pa_cons pe_str (pa_cons pe_str pa_nil)))))
      (pss_cons (ps_set (i := 4) sc_range_of.nd rfl (.inl rfl) (pe_sliceS (pv 2) (po_some pe_int) po_none (po_some pe_int)))
      (pss_cons (ps_if (PW.pt (pw_or (pt_cmpR (op_neD hr.units) (pe_slice sl_list (pv 2) po_none (po_some pe_int)) (pe_lst (pa_cons pe_str (pa_cons pe_str (pa_cons pe_str pa_nil)))) (nomark _)) (pw_or1 (pt_cmpR op_eq (pe_op op_mod (pe_callB cr_len rfl T.b_len (by decide +kernel) (pa_cons (pv 2) pa_nil)) pe_int) pe_int (nomark _))))) (pss_one (ps_ret pe_non)) pss_nil)
      (pss_cons (ps_if (PW.pt (pw_and (pt_cmpR (op_neD hr.units) (pv 4) (pv 3) (nomark _)) (pw_and1 (PW.pt (pw_or (pt_cmpR (op_neD hr.units) (pv 4) (pe_lst (StX.pa_star (pv 3) (pa_cons pe_str pa_nil))) (nomark _)) (pw_or1 (pt_cmpR op_eq (pe_callB cr_len rfl T.b_len (by decide +kernel) (pa_cons (pv 1) pa_nil)) (pe_op op_sub (pe_globI rfl T.m_MOST_RANGES) pe_int) (nomark _)))))))) (pss_one (ps_ret pe_non)) pss_nil)
      (pss_cons (ps_set (i := 5) sc_range_of.nd rfl (.inl rfl) (pe_ix ix_seq (pv 2) pe_int (fun _ _ => rfl)))
      (pss_cons (ps_if (PW.pt (pw_or (pt_not (pt_val (pe_fn T.f_is_name (ok_is_name T) (hr.mono (by decide)) (pa_cons (pv 5) pa_nil)))) (pw_or1 (pt_cmpR op_in_seq (pv 5) (pe_lc (own := [("row", 6)]) rfl sc_range_of.nd (pi_list (pv 1)) (blkOk_by (own := [("row", 6)]) (N := ["line", "ranges", "words", "plain", "marks", "name", "row", "told", "mark", "word"]) (sc := defScope s_range_of) (by decide +kernel)) (fun _ _ _ _ _ => (pg_name (i := 6) sc_range_of.nd rfl (.inl rfl))) (fun _ _ _ _ _ => pts_nil) (fun _ _ _ _ _ => (pe_ix (ix_seqK (K := K) rfl) (pv 6) pe_int (fun _ _ => rfl)))) (by with_unfolding_all rfl))))) (pss_one (ps_ret pe_non)) pss_nil)
      (pss_cons (ps_set (i := 7) sc_range_of.nd rfl (.inr rfl) (pe_dc (own := [("mark", 8), ("word", 9)]) rfl sc_range_of.nd (pi_zip rfl T.b_zip (pa_cons (pv 4) (pa_cons (pe_sliceS (pv 2) (po_some pe_int) po_none (po_some pe_int)) pa_nil))) (blkOk_by (own := [("mark", 8), ("word", 9)]) (N := ["line", "ranges", "words", "plain", "marks", "name", "row", "told", "mark", "word"]) (sc := defScope s_range_of) (by decide +kernel)) (fun _ _ _ _ _ => (pg_tupK (K := K) (n := 2) rfl rfl (pgs_cons (pg_name (i := 8) sc_range_of.nd rfl (.inl rfl)) (pgs_cons (pg_name (i := 9) sc_range_of.nd rfl (.inl rfl)) pgs_nil)))) (fun _ _ _ _ _ => pts_nil) (fun _ _ _ _ _ => (pv 8)) (fun _ _ _ _ _ => (pe_fn T.f_figure_of (ok_figure_of T) (hr.mono (by decide)) (pa_cons (pv 9) pa_nil)))))
      (pss_cons (ps_if (pt_val (pe_callB (cr_any rfl) rfl T.b_any (by decide +kernel) (pa_cons (pe_lock (pe_lc (own := [("mark", 8)]) rfl sc_range_of.nd (pi_keys (pv 7)) (blkOk_by (own := [("mark", 8)]) (N := ["line", "ranges", "words", "plain", "marks", "name", "row", "told", "mark", "word"]) (sc := defScope s_range_of) (by decide +kernel)) (fun _ _ _ _ _ => (pg_name (i := 8) sc_range_of.nd rfl (.inl rfl))) (fun _ _ _ _ _ => pts_nil) (fun _ _ _ _ _ => (pe_cmpR op_isN (pe_dget (hu_of hr) (pv 7) (pv 8) (fun _ _ => rfl)) pe_non (nomark _))))) pa_nil))) (pss_one (ps_ret pe_non)) pss_nil)
      (pss_cons (ps_if (pt_val (pe_callB (cr_any rfl) rfl T.b_any (by decide +kernel) (pa_cons (pe_lock (pe_lc (own := [("mark", 8)]) rfl sc_range_of.nd (pi_keys (pv 7)) (blkOk_by (own := [("mark", 8)]) (N := ["line", "ranges", "words", "plain", "marks", "name", "row", "told", "mark", "word"]) (sc := defScope s_range_of) (by decide +kernel)) (fun _ _ _ _ _ => (pg_name (i := 8) sc_range_of.nd rfl (.inl rfl))) (fun _ _ _ _ _ => (pts_one (pt_cmpR (op_inK (K := K) rfl) (pv 8) (pe_tup (pa_cons pe_str (pa_cons pe_str pa_nil))) (by with_unfolding_all rfl)))) (fun _ _ _ _ _ => (pe_cmpR (op_eqK (K := K) hr.units rfl) (pe_dget (hu_of hr) (pv 7) (pv 8) (fun _ _ => rfl)) (pe_tup (pa_cons pe_int (pa_cons pe_int pa_nil))) (nomark _))))) pa_nil))) (pss_one (ps_ret pe_non)) pss_nil)
      (pss_cons (ps_if (PW.pt (pw_and (pt_truth (pv 1) (by intro _; rfl)) (pw_and1 (pt_not (pt_val (pe_fn T.f_is_in_sequence (ok_is_in_sequence T) (hr.mono (by decide)) (pa_cons (pv 7) (pa_cons (pe_ix ix_seq (pe_ix ix_seq (pv 1) (pe_un un_neg pe_int) (fun _ _ => rfl)) pe_int (fun _ _ => rfl)) pa_nil)))))))) (pss_one (ps_ret pe_non)) pss_nil)
      (pss_one (ps_ret (pe_tup (pa_cons (pv 5) (pa_cons (pe_dget (hu_of hr) (pv 7) pe_str (fun _ _ => rfl)) (pa_cons (pe_dget (hu_of hr) (pv 7) pe_str (fun _ _ => rfl)) (pa_cons (pe_dget1 (hu_of hr) (pv 7) pe_str ⟨rfl, rfl, rfl, rfl⟩) (pa_cons (pe_dget1 (hu_of hr) (pv 7) pe_str ⟨rfl, rfl, rfl, rfl⟩) pa_nil))))))))))))))))))), ?_⟩
    refine My.i_go (σ' := [some _, some _, none, none, none, none, none, none, none, none]) rfl ?_
    repeat walk_at "h"
    refine i_split hw rfl hwz fun p0 H1 S1 hp0 e1 => ?_
    repeat walk_at "h"
    refine ⟨_, tru_list (.of (S1 _ _ ha)), ?_⟩
    repeat walk_at "h"
    refine i_joinHp (fun v H' => ∃ p, v = .ref p ∧ Same H1 H' ∧ H1 p = none ∧ H' p = some (.lst ((marksOf ahead).map V.str))) (fun c Q' hQ => ?_) (fun c Q' hQ => ?_) ?_
    · repeat walk_at "h"
      rename_i p H2 S2 hp e2
      have hne : ahead.isEmpty = false := by
        cases xs with
        | nil => cases c
        | cons x xs => cases ahead with
          | nil => cases hx
          | cons _ _ => rfl
      refine hQ _ _ ⟨p, rfl, S2, hp, ?_⟩
      rw [e2]
      unfold marksOf
      rw [hne]
      rfl
    · repeat walk_at "h"
      rename_i p H2 S2 hp e2
      have hne : ahead.isEmpty = true := by
        cases xs with
        | nil => cases ahead with
          | nil => rfl
          | cons _ _ => cases hx
        | cons x xs => cases c
      refine hQ _ _ ⟨p, rfl, S2, hp, ?_⟩
      rw [e2]
      unfold marksOf
      rw [hne]
      rfl
    rintro _ H2 ⟨p1, rfl, S2, hp1, e2⟩
    repeat walk_at "h"
    rename_i q1 H3 S3 hq1 e3 q2 H4 S4 hq2 e4 q3 H5 S5 hq3 e5
    rw [tells_marks] at e3
    rw [head3] at e4
    have nul : ∀ w ∈ ([("" : Str), ("" : Str), ("range" : Str)] : List Str), WOk w := wok_all (by decide +kernel)
    have S14 := (S2.trans S3).trans S4
    refine i_neW (xs := ["", "", "range"]) (ys := ["", "", "range"]) (.of (S5 _ _ e4)) (.of e5) nul nul ?_
    rw [decide_eq_true rfl]
    repeat walk_at "h"
    refine i_eqF (by have := tells_len r; rw [List.length_map]; omega) ?_
    walk_at "toand"
    refine i_andF (fun H' => Same H5 H') (fun QB' hQ => ?_) (fun H6 S6 => ?_)
    · have S25 := (S3.trans S4).trans S5
      have f2 := S25 _ _ e2
      have f3 := (S4.trans S5) _ _ e3
      have om := tells_w r
      have op := marksOf_w ahead
      have hpl : (marksOf ahead).length ≤ 3 := by unfold marksOf; split <;> decide
      have hm := marks_plain hr1
      repeat walk_at "h"
      refine i_neW (.of f3) (.of f2) om op ?_
      cases eU : r.U with
      | none =>
        rw [eU] at hm
        rw [decide_eq_true (hm.trans (List.append_nil _))]
        repeat walk_at "h"
        exact hQ _ (Same.refl _)
      | some u =>
        rw [eU] at hm
        rw [decide_eq_false (by rw [hm]; intro z; have := congrArg List.length z; simp at this)]
        repeat walk_at "h"
        refine i_szL (by rw [List.length_append, List.length_map]; exact Nat.le_trans (Nat.add_le_add_right hpl 1) (by decide)) fun q4 H6 S6 hq4 e6 => ?_
        have e6 : H6 q4 = some (.lst (((tells r).map (·.1)).map V.str)) := by rw [e6, hm, List.map_append]; rfl
        refine i_neW (.of (S6 _ _ f3)) (.of e6) om om ?_
        rw [decide_eq_true rfl]
        repeat walk_at "h"
        refine i_eqF ?_ ?_
        · have := hlU (by rw [eU]; exact fun z => by cases z)
          have hxl := dpAll_len hx
          rw [List.length_map] at hxl
          omega
        · exact ⟨_, rfl, hQ _ S6⟩
    repeat walk_at "h"
    have S16 := (S14.trans S5).trans S6
    have S06 := S1.trans S16
    refine i_ixsL (.of (S16 _ _ e1)) (word3 r) ?_
    repeat walk_at "h"
    refine ⟨_, rfl, hnm, fun H7 S7 => ?_⟩
    repeat walk_at "h"
    have S07 := S06.trans S7
    refine lcq_list (xs := xs) (fun A i H' acc => H7 A = none ∧ Same H7 H' ∧ H' A = some (.lst acc) ∧ acc = ((ahead.take i).map (·.n)).map V.str) (fun A H' S hA e => ⟨hA, S, e, rfl⟩) (fun A i H' acc _ ⟨_, S, _⟩ => .of ((S07.trans S) _ _ ha)) ?_ ?_
    · rintro A i x H' acc hi hal _ ⟨hA, S, e, ea⟩
      obtain ⟨d, hd, hdp⟩ := dpAll_get (hx.same (S07.trans S)) hi
      rw [List.getElem?_map] at hd
      obtain ⟨r', hr', rfl⟩ := Option.map_eq_some_iff.mp hd
      obtain ⟨b, g, s', d', u', rfl, hb, _⟩ := row_dp hdp
      repeat walk_at "h"
      refine ⟨rfl, ?_⟩
      repeat walk_at "h"
      refine turn_end e hal (by have := dpAll_len hx; rw [List.length_map] at this; have := List.getElem?_eq_some_iff.mp hi; obtain ⟨h9, _⟩ := this; omega) fun H9 B e9 => ⟨hA, Same.ext S hA B, e9, ?_⟩
      rw [ea, List.take_add_one, hr']
      simp
    · rintro A H8 acc hal _ ⟨hA, S8, e8, ea⟩
      have hlen : xs.length = ahead.length := by have := dpAll_len hx; rwa [List.length_map] at this
      rw [hlen, List.take_length] at ea
      subst ea
      have S18 := (S16.trans S7).trans S8
      repeat walk_at "h"
      refine i_inL (.of e8) rfl (My.flat_strs _) ?_
      rw [inV_no (fun z => by obtain ⟨a', ha', e'⟩ := List.mem_map.mp z; exact hr1.fresh a' ha' e')]
      repeat walk_at "h"
      rename_i q5 H9 S9 hq5 e9
      rw [tells_figs] at e9
      have f1 := ((((S4.trans S5).trans S6).trans S7).trans S8).trans S9 _ _ e3
      refine i_zipv (.of f1) (.of e9) ?_
      refine dcq_zip (by rw [List.length_map, List.length_map, List.length_map, List.length_map]) (fun B i H' acc => H9 B = none ∧ Same H9 H' ∧ H' B = some (.dK acc) ∧ KP (LdR K H') acc ((tells r).take i)) (fun B H' hS hB e => ⟨hB, hS, e, .nil⟩) (fun B i H' acc ⟨_, S, _⟩ => ⟨.of (S _ _ f1), .of (S _ _ e9)⟩) ?_ ?_
      · rintro B i u v H' H1' T' acc hu hv ⟨hB, S, eB, hk⟩ ST hT eT
        rw [List.getElem?_map, List.getElem?_map] at hu
        rw [List.getElem?_map, List.getElem?_map] at hv
        obtain ⟨m, hm, rfl⟩ := Option.map_eq_some_iff.mp hu
        obtain ⟨t, ht, rfl⟩ := Option.map_eq_some_iff.mp hm
        rw [ht] at hv
        obtain rfl := (Option.some.inj hv).symm
        have ok := tells_ok hr1 t (List.mem_of_getElem? ht)
        repeat walk_at "h"
        refine ⟨rfl, ?_⟩
        repeat walk_at "h"
        refine ⟨_, rfl, ok.1, fun p H2' S2' hp2 ep2 => ?_⟩
        refine turnD_end (S2' _ _ (ST _ _ eB)) (by have := hk.len; rw [List.length_take] at this; have := (tells_len r).2.1; omega) fun H5' B5 e5' => ?_
        have B9 : Same H9 H5' := Same.ext ((S.trans ST).trans S2') hB B5
        refine ⟨hB, B9, e5', ?_⟩
        have hnd := tells_nd r
        rw [List.take_add_one, ht]
        refine KP.put (hk.imp fun v' a' hv' => dp_butN ((S2' _ _ (ST _ _ eB))) trivial B5 (noL_rat _) ((hv'.same ST).same S2')) ?_ ?_
        · exact nd_take hnd ht
        · exact dp_butN (S2' _ _ (ST _ _ eB)) trivial B5 (noL_rat _) (dp_rat (.of ep2))
      · rintro B H10 acc ⟨hB, S10, e10, hk⟩
        rw [List.length_map, List.length_map, List.take_length] at hk
        repeat walk_at "h"
        have any_off : ∀ m : Nat, (List.replicate m false).any id = false := fun m => by simp
        refine i_lockK e10 fun od Hl Bl el => ?_
        repeat walk_at "h"
        refine i_keysv el ?_
        refine lcq_y (n := acc.length) (fun A' i H' l => Hl A' = none ∧ Same Hl H' ∧ H' A' = some (.lst l) ∧ l = (List.replicate i false).map V.bl) (fun A' H' hS hA e => ⟨hA, hS, e, rfl⟩) (fun A' i H' l hi ⟨_, S, _⟩ => ⟨S _ _ el, hi⟩) (fun A' H' l ⟨_, S, _⟩ => ⟨S _ _ el, Nat.le_refl _⟩) ?_ ?_
        · rintro A' i x H' H1' l hi ⟨hA', S, eA, el'⟩ ⟨rfl, kk, v, hkv, rfl⟩
          obtain ⟨t, ht, hk1, hv1⟩ := paired_get hk hkv
          obtain rfl : kk = Sum.inr t.1 := hk1
          obtain ⟨v', gv, rv⟩ := hk.get (tells_nd r) (List.mem_of_getElem? ht)
          obtain ⟨pv, rfl, _⟩ := rat_dp rv
          repeat walk_at "h"
          refine ⟨rfl, ?_⟩
          repeat walk_at "h"
          refine i_dgF (S _ _ el) gv ?_
          repeat walk_at "h"
          rw [decide_eq_false (by intro z; cases z)]
          refine turnC_end eA (by rw [el', List.length_map, List.length_replicate]; have := hk.len; have := (tells_len r).2.1; omega) fun H5' B5 e5' => ⟨hA', Same.ext S hA' B5, e5', ?_⟩
          rw [el', List.replicate_succ', List.map_append]
          rfl
        · rintro A' H11' l ⟨hA', S, eA, el'⟩
          refine ⟨S _ _ el, ?_⟩
          have S11 := unlock_same e10 Bl S
          have nB : A' ≠ B := fun z => by rw [z, el] at hA'; cases hA'
          have e11 : (upd H11' B (.dK acc)) A' = some (.lst l) := by rw [upd_ne nB]; exact eA
          generalize upd H11' B (.dK acc) = H11 at S11 e11 ⊢
          subst el'
          repeat walk_at "h"
          refine i_any (.of e11) ?_
          rw [any_off]
          repeat walk_at "h"
          refine i_lockK (S11 _ _ e10) fun od2 Hl2 Bl2 el2 => ?_
          repeat walk_at "h"
          refine i_keysv el2 ?_
          refine lcq_n (n := acc.length) (fun A2 i H' l2 => Hl2 A2 = none ∧ Same Hl2 H' ∧ H' A2 = some (.lst l2) ∧ ∃ m, m ≤ i ∧ l2 = (List.replicate m false).map V.bl) (fun A2 H' hS hA e => ⟨hA, hS, e, 0, Nat.le_refl _, rfl⟩) (fun A2 i H' l2 hi ⟨_, S, _⟩ => ⟨S _ _ el2, hi⟩) (fun A2 H' l2 ⟨_, S, _⟩ => ⟨S _ _ el2, Nat.le_refl _⟩) ?_ ?_
          · rintro A2 i x H' H1' l2 hi ⟨hA2, S2', eA2, m, hm, el3⟩ ⟨rfl, kk, v, hkv, rfl⟩
            obtain ⟨t, ht, hk1, hv1⟩ := paired_get hk hkv
            obtain rfl : kk = Sum.inr t.1 := hk1
            obtain ⟨v', gv, rv⟩ := hk.get (tells_nd r) (List.mem_of_getElem? ht)
            have ok := tells_ok hr1 t (List.mem_of_getElem? ht)
            have rvl : LdR K H1' v' t.2 := dp_noL (fun _ _ q => S2'.seqT (seqT_butP (S11 _ _ e10) trivial Bl2 (S11.seqT q))) _ _ (noL_rat _) rv
            obtain ⟨pv, rfl, rpv⟩ := rat_dp rvl
            repeat walk_at "h"
            refine ⟨rfl, ?_⟩
            repeat walk_at "h"
            rename_i T1 HT1 ST1 hT1 eT1
            refine i_inT (.of eT1) rfl rfl ?_
            repeat walk_at "h"
            refine ite_b (fun hin => ?_) (fun hin => ?_)
            · have hin : inV (.str t.1) [V.str "unit", V.str "up"] = true := hin
              have h0 : 0 < t.2 := ok.2 (by
                unfold inV at hin
                simp only [List.any_cons, List.any_nil, Bool.or_false, Bool.or_eq_true, eqV, beq_iff_eq] at hin
                rcases hin with z | z
                · exact .inl z.symm
                · exact .inr z.symm)
              repeat walk_at "h"
              refine i_dgF (ST1 _ _ (S2' _ _ el2)) gv ?_
              repeat walk_at "h"
              rename_i T2 HT2 ST2 hT2 eT2
              refine ⟨ratD t.2, .tuple [.int 0, .int 1], dp_rat (ST2.seqT (ST1.seqT rpv)), .tup (.of eT2) (.cons (.int _) (.cons (.int _) .nil)), rfl, rfl, ?_⟩
              have ez : PyData.eqv (ratD t.2) (.tuple [.int 0, .int 1]) = false := by
                unfold ratD
                have : t.2.num ≠ 0 := fun z => by rw [Rat.num_eq_zero.mp z] at h0; exact absurd h0 (by decide)
                simp [PyData.eqv, PyData.eqvAll, this]
              rw [ez]
              refine turnC_end (ST2 _ _ (ST1 _ _ eA2)) (by rw [el3, List.length_map, List.length_replicate]; have := hk.len; have := (tells_len r).2.1; omega) fun H5' B5 e5' => ⟨hA2, Same.ext ((S2'.trans ST1).trans ST2) hA2 B5, e5', m + 1, by omega, ?_⟩
              rw [el3, List.replicate_succ', List.map_append]
              rfl
            · exact ⟨l2, hA2, S2'.trans ST1, ST1 _ _ eA2, m, by omega, el3⟩
          · rintro A2 H12' l2 ⟨hA2, S2', eA2, m, hm, el3⟩
            refine ⟨S2' _ _ el2, ?_⟩
            have S12 := unlock_same (S11 _ _ e10) Bl2 S2'
            have nB2 : A2 ≠ B := fun z => by rw [z, el2] at hA2; cases hA2
            have e12 : (upd H12' B (.dK acc)) A2 = some (.lst l2) := by rw [upd_ne nB2]; exact eA2
            generalize upd H12' B (.dK acc) = H12 at S12 e12 ⊢
            subst el3
            repeat walk_at "h"
            refine i_any (.of e12) ?_
            rw [any_off]
            walk_at "toand"
            have S0 : Same H H12 := (((S07.trans S8).trans S9).trans S10).trans (S11.trans S12)
            have e13 := S12 _ _ (S11 _ _ e10)
            have hk13 : KP (LdR K H12) acc (tells r) := hk.imp fun v a hv => hv.same (S11.trans S12)
            refine i_andF (fun H' => H' = H12) (fun QB' hQ => ?_) ?_
            · repeat walk_at "h"
              refine ⟨_, tru_list (.of (S0 _ _ ha)), ?_⟩
              cases hal2 : ahead.getLast? with
              | none =>
                rw [List.getLast?_eq_none_iff] at hal2
                subst hal2
                have := dpAll_nil hx
                subst this
                exact hQ _ rfl
              | some al =>
                obtain ⟨t, etu, ht9, hle, hlt⟩ := hr1.seq al hal2
                have hne : ahead ≠ [] := fun z => by rw [z] at hal2; cases hal2
                obtain ⟨q0, eD, hq0⟩ := hr1.d.2 hne
                obtain ⟨i, hi⟩ : ∃ i, ahead.length = i + 1 := ⟨ahead.length - 1, by have := List.length_pos_iff.mpr hne; omega⟩
                have hxl : xs.length = i + 1 := by have := dpAll_len hx; rw [List.length_map] at this; omega
                have hal3 : ahead[i]? = some al := by rw [List.getLast?_eq_getElem?, hi] at hal2; exact hal2
                obtain ⟨vl, hvl, dvl⟩ := dpAll_at (hx.same S0) (i := i) (d := rowD al) (by rw [List.getElem?_map, hal3]; rfl)
                obtain ⟨bl, g', s', d', u', rfl, hbl, _, _, _, hu'⟩ := row_dp dvl
                rw [etu] at hu'
                obtain ⟨tu, rfl, htu⟩ := rat_dp hu'
                have hnx : xs.isEmpty = false := by cases xs with
                  | nil => simp at hxl
                  | cons _ _ => rfl
                rw [hnx]
                repeat walk_at "h"
                refine i_ixsL (.of (S0 _ _ ha)) (atI_end hxl hvl) ?_
                repeat walk_at "h"
                refine ⟨_, _, _, r, t, q0, rfl, e13, hk13, htu, ht9, eD, hle q0 eD, hq0, fun q e => ⟨(hr1.u q e).1, hlt q e⟩, ?_⟩
                repeat walk_at "h"
                exact hQ _ rfl
            rintro _ rfl
            obtain ⟨vD, gD, dD⟩ := told_D hk13
            obtain ⟨vU, gU, dU⟩ := told_U hk13
            obtain ⟨vG, gG, dG⟩ := hk13.get (tells_nd r) (tells_G r)
            obtain ⟨vS, gS, dS⟩ := hk13.get (tells_nd r) (tells_S r)
            repeat walk_at "h"
            refine i_dgS e13 gG ?_
            repeat walk_at "h"
            refine i_dgS e13 gS ?_
            repeat walk_at "h"
            refine i_dgo e13 gD ?_
            repeat walk_at "h"
            refine i_dgo e13 gU ?_
            repeat walk_at "h"
            rename_i pz H14 S14' hpz ez
            exact k pz H14 (S0.trans S14') (S0.free hpz) (dp_row (.of ez) (dG.same S14') (dS.same S14') (dD.same S14') (dU.same S14'))
theorem sc_read_loads : FnScope ["lines", "at", "loads", "index", "words", "found"] ["lines", "at"] (defScope s_read_loads) := ⟨rfl, rfl, rfl, by decide +kernel, rfl, by decide +kernel, by decide +kernel⟩
theorem ok_read_loads (T : Tx K mg) : FnAt P w K mg base CX0 5 (He.ga K "read_loads") ["lines", "at"] (spReadLoads K) := by
  refine T.f_read_loads.f.ok sc_read_loads ?_ (fun cdv A outer s H vs Q E hr h => ?_)
  · walk_at "len"
  · obtain ⟨a, i, ls, lds, rfl, hl, hlz, hd, hil, h2, hok, hnd, k⟩ := h
    have hlen : ls.length = i + lds.length := by have := congrArg List.length hd; rw [List.length_drop, List.length_map] at this; omega
    refine ⟨_, (pss_cons (ps_set (i := 2) sc_read_loads.nd rfl (.inl rfl) pe_dnewK)
      (pss_cons (ps_for PassesOwn.never rfl (pi_range2 rfl T.b_range (pa_cons (pv 1) (pa_cons (pe_callB cr_len rfl T.b_len (by decide +kernel) (pa_cons (pv 0) pa_nil)) pa_nil))) (pg_name (i := 3) sc_read_loads.nd rfl (.inl rfl)) (pss_cons (ps_set (i := 4) sc_read_loads.nd rfl (.inl rfl) (pe_bm PySem.F.plainAttrs_str PySem.F.slot_str_split PySem.F.type_str_split mt_splitN' (pe_ix ix_seq (pv 0) (pv 3) (fun _ _ => rfl)) (pa_cons pe_str pa_nil)))
      (pss_cons (ps_if (PW.pt (pw_or (pt_cmpR op_eq (pe_callB cr_lenDN rfl T.b_len (by decide +kernel) (pa_cons (pv 2) pa_nil)) (pe_globI rfl T.m_MOST_LOADS) (nomark _)) (pw_or (pt_cmpR op_ne (pe_callB cr_len rfl T.b_len (by decide +kernel) (pa_cons (pv 4) pa_nil)) pe_int (nomark _)) (pw_or1 (pt_cmpR op_ne (pe_ix ix_seq (pv 4) pe_int (fun _ _ => rfl)) pe_str (nomark _)))))) (pss_one ps_never) pss_nil)
      (pss_cons (ps_set (i := 5) sc_read_loads.nd rfl (.inl rfl) (pe_fn T.f_figure_of (ok_figure_of T) (hr.mono (by decide)) (pa_cons (pe_ix ix_seq (pv 4) pe_int (fun _ _ => rfl)) pa_nil)))
      (pss_cons (ps_if (PW.pt (pw_or (pt_not (pt_val (pe_fn T.f_is_name (ok_is_name T) (hr.mono (by decide)) (pa_cons (pe_ix ix_seq (pv 4) pe_int (fun _ _ => rfl)) pa_nil)))) (pw_or (pt_cmp (pc_din (hu_of hr) (pe_ix ix_seq (pv 4) pe_int (fun _ _ => rfl)) (pv 2)) rfl) (pw_or1 (pt_cmpR op_isN (pv 5) pe_non (nomark _)))))) (pss_one ps_never) pss_nil)
      (pss_one (ps_dput (hu_of hr) (pv 2) (pe_ix ix_seq (pv 4) pe_int (fun _ _ => rfl)) (pv 5) rfl)))))))
      (pss_one (ps_ret (pv 2))))), ?_⟩
    refine My.i_go (σ' := [some _, some _, none, none, none, none]) rfl ?_
    repeat walk_at "h"
    refine i_dnewK fun p0 H1 S1 hp0 e1 => ?_
    repeat walk_at "h"
    refine i_lenL (S1.seq hl) ?_
    repeat walk_at "h"
    rw [List.length_map]
    refine i_rng2v (by omega) (by omega) (by omega) (by omega) ?_
    rw [show ((ls.length : Int) - (i : Int)).toNat = lds.length by omega]
    refine forq_n (n := lds.length) (fun j σ' H' => ∃ (w1 w2 w3 : Option V) (kvs : List (Key × V)), σ' = [some (.ref a), some (.int i), some (.ref p0), w1, w2, w3] ∧ H' p0 = some (.dK kvs) ∧ KP (LdR K H') kvs (lds.take j) ∧ Same H H') ⟨none, none, none, [], rfl, e1, .nil, S1⟩ (fun _ _ _ hi _ => hi) (fun _ _ _ => Nat.le_refl _) ?_ ?_
    · rintro j x σ' H' H1' hj ⟨w1, w2, w3, kvs, rfl, e2, hk, S2⟩ ⟨rfl, rfl⟩
      have hget : lds[j]? = some lds[j] := List.getElem?_eq_getElem hj
      obtain ⟨hnm, hq⟩ := hok lds[j] (List.getElem_mem hj)
      have hkl : kvs.length = j := by rw [hk.len, List.length_take]; omega
      have hlj : ls[i + j]? = some (loadLine lds[j]) := by rw [drop_get hd, List.getElem?_map, hget]; rfl
      repeat walk_at "h"
      refine i_ixsL (v := .str (loadLine lds[j])) (S2.seq hl) (atI_nat (j := i + j) (by rw [List.getElem?_map, hlj]; rfl)) ?_
      repeat walk_at "h"
      refine i_split (loadLine_split hnm) rfl (Nat.le_trans (Nat.add_le_add_right (loadLine_le hnm hq) 2) (by decide)) fun p1 H3 S3 hp1 e3 => ?_
      repeat walk_at "h"
      refine i_lenD (S3 _ _ e2) ?_
      repeat walk_at "h"
      refine i_eqF (by omega) ?_
      repeat walk_at "h"
      refine i_neF rfl ?_
      repeat walk_at "h"
      rw [decide_eq_true rfl]
      repeat walk_at "h"
      refine ⟨lds[j].2, rfl, hq, fun p4 H4 S4 hp4 e4 => ?_⟩
      repeat walk_at "h"
      refine ⟨_, rfl, hnm, fun H5 S5 => ?_⟩
      have e25 := S5 _ _ (S4 _ _ (S3 _ _ e2))
      repeat walk_at "h"
      refine i_diS e25 ?_
      have hno := hk.no (nd_takeN hnd hget)
      rw [hno, Option.isSome_none]
      repeat walk_at "h"
      refine i_dpS e25 (by rw [hkl]; exact Nat.lt_of_lt_of_le (show j < 3 by omega) (by decide)) fun H6 B6 e6 => ?_
      refine ⟨_, _, _, _, rfl, e6, ?_, Same.ext (((S2.trans S3).trans S4).trans S5) hp0 B6⟩
      rw [List.take_add_one, hget]
      exact KP.put (hk.imp fun v r hv => dp_butN e25 trivial B6 (noL_rat _) (((hv.same S3).same S4).same S5)) (nd_takeN hnd hget) (dp_butN e25 trivial B6 (noL_rat _) ((dp_rat (.of e4)).same S5))
    · rintro σ' H' ⟨w1, w2, w3, kvs, rfl, e2, hk, S2⟩
      rw [List.take_length] at hk
      repeat walk_at "h"
      exact k p0 H' kvs S2 hp0 e2 hk
theorem sc__law_lore : FnScope ["_law_pot_here", "_law_shape_here", "_law_way", "_law_loads", "_law_spread", "_law_meters", "_law_name", "_law_many", "_law_some_here"] ["_law_pot_here", "_law_shape_here", "_law_way", "_law_loads"] (defScope s__law_lore) := ⟨rfl, rfl, rfl, by decide +kernel, rfl, by decide +kernel, by decide +kernel⟩
theorem ok__law_lore (T : Tx K mg) : FnAt P w K mg base CX0 5 (He.ga K "_law_lore") ["_law_pot_here", "_law_shape_here", "_law_way", "_law_loads"] (spLore K) := by
  refine T.f__law_lore.f.ok sc__law_lore ?_ (fun cdv A outer s H vs Q E hr h => ?_)
  · walk_at "len"
  · obtain ⟨p, s', ns, w', n, l, rfl, hP, hn, hs, hn1, hn3, hnk, hl2, hsp, k⟩ := h
    refine ⟨_, (pss_cons (ps_set (i := 4) sc__law_lore.nd rfl (.inl rfl) (pe_fn T.f__law_of (ok__law_of T) (hr.mono (by decide)) (pa_cons (pv 0) (pa_cons (pe_lst (pa_cons pe_int (pa_cons pe_int (pa_cons pe_int (pa_cons pe_int (pa_cons pe_int (pa_cons pe_int (pa_cons pe_int (pa_cons pe_int pa_nil))))))))) pa_nil))))
      (pss_cons (ps_setLc (i := 5) (own := [("_law_name", 6), ("_law_many", 7)]) rfl sc__law_lore.nd rfl rfl (sw_true rfl rfl rfl (by decide +kernel)) (pi_zip rfl T.b_zip (pa_cons (pe_fn T.f__law_names (ok__law_names T) (hr.mono (by decide)) (pa_cons (pv 0) (pa_cons (pe_callB cr_len rfl T.b_len (by decide +kernel) (pa_cons (pv 1) pa_nil)) pa_nil))) (pa_cons (pv 1) pa_nil))) (blkOk_by (own := [("_law_name", 6), ("_law_many", 7)]) (N := ["_law_pot_here", "_law_shape_here", "_law_way", "_law_loads", "_law_spread", "_law_meters", "_law_name", "_law_many", "_law_some_here"]) (sc := defScope s__law_lore) (by decide +kernel)) (fun _ _ _ _ _ => (pg_tupK (K := K) (n := 2) rfl rfl (pgs_cons (pg_name (i := 6) sc__law_lore.nd rfl (.inl rfl)) (pgs_cons (pg_name (i := 7) sc__law_lore.nd rfl (.inl rfl)) pgs_nil)))) (fun _ _ _ _ _ => pts_nil) (fun _ _ _ _ _ => (pe_tup (pa_cons (pv 6) (pa_cons (pe_fn T.f__law_ranges (ok__law_ranges T) (hr.mono (by decide)) (pa_cons (pv 0) (pa_cons (pv 7) (pa_cons (pv 2) pa_nil)))) pa_nil)))))
      (pss_cons (ps_setLc (i := 8) (own := [("_law_name", 6)]) rfl sc__law_lore.nd rfl rfl (sw_true rfl rfl rfl (by decide +kernel)) (pi_list (pe_fn T.f__law_names (ok__law_names T) (hr.mono (by decide)) (pa_cons (pv 0) (pa_cons (pv 3) pa_nil)))) (blkOk_by (own := [("_law_name", 6)]) (N := ["_law_pot_here", "_law_shape_here", "_law_way", "_law_loads", "_law_spread", "_law_meters", "_law_name", "_law_many", "_law_some_here"]) (sc := defScope s__law_lore) (by decide +kernel)) (fun _ _ _ _ _ => (pg_name (i := 6) sc__law_lore.nd rfl (.inl rfl))) (fun _ _ _ _ _ => pts_nil) (fun _ _ _ _ _ => (pe_tup (pa_cons (pv 6) (pa_cons (pe_fn T.f__law_pair (ok__law_pair T) (hr.mono (by decide)) (pa_cons (pe_fn T.f__law_take (ok__law_take T) (hr.mono (by decide)) (pa_cons (pv 0) (pa_cons pe_int pa_nil))) (pa_cons (pe_op op_add pe_int (pe_fn T.f__law_take (ok__law_take T) (hr.mono (by decide)) (pa_cons (pv 0) (pa_cons pe_int pa_nil)))) pa_nil))) pa_nil)))))
      (pss_one (ps_ret (pe_disp (pps_cons pe_str (pv 4) (pps_cons pe_str (pv 5) (pps_cons pe_str (pv 8) pps_nil))) (by rfl) (by rfl) (fun z => by cases z) (by decide))))))), ?_⟩
    refine My.i_go (σ' := [some _, some _, some _, some _, none, none, none, none, none]) rfl ?_
    repeat walk_at "h"
    rename_i l1 H1 S1 l10 el1
    refine ⟨p, l1, [.int 0, .int 0, .int 0, .int 0, .int 1, .int 4, .int 10, .int 20], n, rfl, hP.same S1, by omega, (hP.ne l10).symm, .of el1, show 0 < 8 by decide, show 8 < 1000000 by decide, fun v H2 hv P2 B2 => ?_⟩
    obtain ⟨sd, rfl, hsd⟩ : ∃ sd : Nat, v = .int sd ∧ sd ≤ 20 := by
      simp only [List.mem_cons, List.not_mem_nil, or_false] at hv
      rcases hv with rfl | rfl | rfl | rfl | rfl | rfl | rfl | rfl <;> exact ⟨_, rfl, by decide⟩
    have B02 : But p H H2 := S1.but.trans B2
    have hs2 := B02 _ _ hsp hs
    repeat walk_at "h"
    refine ⟨p, ns.length, n + 1, by rw [List.length_map]; rfl, P2, by omega, by omega, fun ln H3 nm B3 P3 n0 eln hnl hnd hnm => ?_⟩
    have B03 := B02.trans B3
    have hs3 := B03 _ _ hsp hs
    have hln0 : H ln = none := B02.free (fun z => by rw [z] at n0; obtain ⟨_, e⟩ := P2.some; rw [e] at n0; cases n0) n0
    repeat walk_at "h"
    refine i_zipv (.of eln) (.of hs3) ?_
    have nsp : p ≠ s' := hsp.symm
    have npl : p ≠ ln := P2.ne n0
    refine lcq_zip (by rw [List.length_map, List.length_map, hnl]) (fun A i H' acc => H3 A = none ∧ p ≠ A ∧ But p H H' ∧ Pot H' p (n + 4 + 100 * i) ∧ H' A = some (.lst acc) ∧ H' ln = some (.lst (nm.map V.str)) ∧ H' s' = some (.lst (ns.map fun k : Nat => V.int k)) ∧ Mts K (MtF H A) H' acc (nm.take i) (ns.take i))
      (fun A H' S hA e => ⟨hA, P3.ne hA, B03.same S, (P3.same S).mono (by omega), e, S _ _ eln, S _ _ hs3, [], .nil, rfl, rfl, fun m hm => by cases hm⟩)
      (fun A i H' acc ⟨_, _, _, _, _, a, b, _⟩ => ⟨.of a, .of b⟩) ?_ ?_
    · rintro A i u v H4 H5 T acc hu hv ⟨hA, npA, B4, P4, eA, eln4, hs4, mts⟩ S5 hT eT
      rw [List.getElem?_map] at hu hv
      obtain ⟨nmi, hnmi, rfl⟩ := Option.map_eq_some_iff.mp hu
      obtain ⟨nsi, hnsi, rfl⟩ := Option.map_eq_some_iff.mp hv
      have hil : i < ns.length := (List.getElem?_eq_some_iff.mp hnsi).1
      obtain ⟨hk1, hk4⟩ := hnk nsi (List.mem_of_getElem? hnsi)
      have P5 := P4.same S5
      have m5 := mts.same S5
      have eA5 := S5 _ _ eA
      repeat walk_at "h"
      refine ⟨rfl, ?_⟩
      repeat walk_at "h"
      refine ⟨p, nsi, w', n + 4 + 100 * i, rfl, P5, by omega, hk1, hk4, fun r H6 xs rows B6 P6 r0 er hx hl hok => ?_⟩
      repeat walk_at "h"
      rename_i a7 H7 S7 a70 e7
      have nrp : r ≠ p := (P5.ne r0).symm
      have hr0 : H r = none := (B4.same S5).free nrp r0
      have nrA : r ≠ A := (ne_of_none eA5 r0).symm
      obtain ⟨l5, ep5⟩ := P5.some
      obtain ⟨l0, ep0⟩ := hP.some
      have nF : ¬ MtF H A p := fun z => by have z := z.1; rw [ep0] at z; cases z
      have nFA : ¬ MtF H A A := fun z => z.2 rfl
      have m7 := (m5.but ep5 nF B6).same S7
      have eA7 := S7 _ _ (B6 _ _ npA.symm eA5)
      have new : MetAt K (MtF H A) H7 (.ref a7) (nmi, rows) := ⟨a7, r, xs, rfl, ⟨hr0, nrA⟩, .of e7, S7 _ _ er, hx.same S7⟩
      have hal : acc.length ≤ 3 := by rw [m7.len, List.length_take]; omega
      refine turnC_end eA7 (by omega) fun H8 B8 e8 => ?_
      have hA0 : H A = none := B03.free npA.symm hA
      refine ⟨hA, npA, But.ext (((B4.same S5).trans B6).same S7) hA0 B8, (((P6.same S7).butne B8 npA).mono (by omega)), e8, ?_, ?_, ?_⟩
      · have h7 := S7 _ _ (B6 _ _ npl.symm (S5 _ _ eln4))
        exact B8 _ _ (ne_of_none eln hA) h7
      · have h7 := S7 _ _ (B6 _ _ nsp.symm (S5 _ _ hs4))
        exact B8 _ _ (ne_of_none hs3 hA) h7
      · have := (m7.snoc new hok).but eA7 nFA B8
        rw [List.take_add_one, List.take_add_one, hnmi, hnsi]
        rw [show (nmi, rows).2.length = nsi from hl] at this
        exact this
    · rintro A H4 acc ⟨hA, npA, B4, P4, eA, eln4, hs4, mts⟩
      rw [List.length_map, List.take_length, hnl, List.take_length] at mts
      rw [List.length_map, hnl] at P4
      have P4 : Pot H4 p (n + 304) := P4.mono (by omega)
      have hA0 : H A = none := B03.free npA.symm hA
      clear eln4 hs4
      repeat walk_at "h"
      refine ⟨p, l, n + 304, rfl, P4, by omega, by omega, fun l5 H5 nl B5 P5 l50 el5 hll hlnd hlnm => ?_⟩
      repeat walk_at "h"
      obtain ⟨l4, ep4⟩ := P4.some
      obtain ⟨l0, ep0⟩ := hP.some
      have npl5 : p ≠ l5 := P4.ne l50
      have hl50 : H l5 = none := B4.free npl5.symm l50
      have mts4 := mts.now
      have nF : ¬ (MtF H A p ∧ H4 p ≠ none) := fun z => by have z := z.1.1; rw [ep0] at z; cases z
      have mts5 := mts4.but ep4 nF B5
      have eA5 := B5 _ _ npA.symm eA
      refine lcq_list (xs := nl.map V.str) (fun C i H' ys => H5 C = none ∧ p ≠ C ∧ But p H5 H' ∧ Pot H' p (n + 306 + 2 * i) ∧ H' l5 = some (.lst (nl.map V.str)) ∧ H' A = some (.lst acc) ∧ Mts K (fun a => MtF H A a ∧ H4 a ≠ none) H' acc nm ns ∧ H' C = some (.lst ys) ∧ ∃ lds : List (Str × Rat), DpAll K H' ys (lds.map loadD) ∧ lds.map (·.1) = nl.take i ∧ ∀ q ∈ lds, RatOk q.2)
        (fun C H' S hC e => ⟨hC, P5.ne hC, S.but, (P5.same S).mono (by omega), S _ _ el5, S _ _ eA5, mts5.same S, e, [], .nil, rfl, fun q hq => by cases hq⟩)
        (fun C i H' ys _ ⟨_, _, _, _, a, _⟩ => .of a) ?_ ?_
      · rintro C i u H6 ys hu hyl eC0 ⟨hC, npC, B6, P6, el6, eA6, mts6, eC, lds, hld, hln, hlok⟩
        rw [List.getElem?_map] at hu
        obtain ⟨nmi, hnmi, rfl⟩ := Option.map_eq_some_iff.mp hu
        have hil : i < l := by have := (List.getElem?_eq_some_iff.mp hnmi).1; omega
        repeat walk_at "h"
        refine ⟨rfl, ?_⟩
        repeat walk_at "h"
        refine ⟨p, 7, n + 306 + 2 * i, rfl, P6, by omega, by decide, by decide, fun r H7 r0 r1 P7 B7 => ?_⟩
        repeat walk_at "h"
        refine ⟨p, 2, n + 306 + 2 * i + 1, rfl, P7, by omega, by decide, by decide, fun r' H8 r0' r1' P8 B8 => ?_⟩
        repeat walk_at "h"
        have sp1 : (2 : Nat) ^ 30 ≤ 2 ^ 4000 := Nat.pow_le_pow_right (by decide) (by decide)
        refine ⟨r, 1 + r', rfl, by omega, Nat.lt_of_lt_of_le (show r.natAbs < 2 ^ 30 by omega) sp1, Nat.lt_of_lt_of_le (show (1 + r').natAbs < 2 ^ 30 by omega) sp1, fun a9 H9 S9 a90 e9 => ?_⟩
        repeat walk_at "h"
        rename_i a10 H10 S10 a100 e10
        have S810 := S9.trans S10
        obtain ⟨q6, ep6⟩ := P6.some
        obtain ⟨q7, ep7⟩ := P7.some
        have BB : ∀ c o, c ≠ p → H6 c = some o → H10 c = some o := fun c o nc e => S810 _ _ (B8 _ _ nc (B7 _ _ nc e))
        have mts10 := ((mts6.but ep6 nF B7).but ep7 nF B8).same S810
        have d10 := (dpAll_butN ep7 trivial B8 (noL_map noL_load _) (dpAll_butN ep6 trivial B7 (noL_map noL_load _) hld)).same S810
        have dn : Dp K H10 (.ref a10) (loadD (nmi, ((r : Int) : Rat) / ((1 + r' : Int) : Rat))) := .tup (.of e10) (.cons (.str _) (.cons (dp_rat (.of (S10 _ _ e9))) .nil))
        have eC10 := BB _ _ npC.symm eC
        refine turn_end eC10 hyl (by omega) fun H11 B11 e11 => ?_
        have hC4 : H4 C = none := B5.free npC.symm hC
        have hC0 : H C = none := B4.free npC.symm hC4
        have nFC : ¬ (MtF H A C ∧ H4 C ≠ none) := fun z => z.2 hC4
        refine ⟨hC, npC, But.ext ((((B6.trans B7).trans B8).same S810)) hC B11, (((P8.same S810).butne B11 npC).mono (by omega)), B11 _ _ (ne_of_none el5 hC) (BB _ _ npl5.symm el6), B11 _ _ (ne_of_none eA5 hC) (BB _ _ npA.symm eA6), mts10.but eC10 nFC B11, e11, lds ++ [(nmi, ((r : Int) : Rat) / ((1 + r' : Int) : Rat))], ?_, ?_, ?_⟩
        · rw [List.map_append]
          exact dpAll_snoc (dpAll_butN eC10 trivial B11 (noL_map noL_load _) d10) (dp_butN eC10 trivial B11 (noL_load _) dn)
        · rw [List.map_append, hln, List.take_add_one, hnmi]; rfl
        · intro q hq
          rcases List.mem_append.mp hq with hq | hq
          · exact hlok q hq
          · rw [List.mem_singleton.mp hq]
            exact ratOk_div r0 (by omega) (by omega) (by omega)
      · rintro C H6 ys hyl eC0 ⟨hC, npC, B6, P6, el6, eA6, mts6, eC, lds, hld, hln, hlok⟩
        rw [List.length_map, List.take_length] at hln
        rw [List.length_map, hll] at P6
        repeat walk_at "h"
        refine i_disp fun d H7 S7 hd ed => ?_
        refine i_pairs ?_
        repeat walk_at "h"
        refine i_pairs ?_
        repeat walk_at "h"
        refine i_pairs ?_
        repeat walk_at "h"
        refine i_pairs0 ?_
        refine i_dispE (loreKv sd A C) rfl ed (show 3 ≤ 15 by decide) (merge_lore _ _ _) fun H8 B8 e8 => ?_
        obtain ⟨ms, hms, hmn, hml, hmok⟩ := mts6.same S7
        have npd : p ≠ d := P6.ne hd
        have hd4 : H4 d = none := B5.free npd.symm (B6.free npd.symm hd)
        have hd0 : H d = none := B4.free npd.symm hd4
        have hC0 : H C = none := (B4.trans B5).free npC.symm hC
        have nCd : C ≠ d := ne_of_none eC hd
        have nAd : A ≠ d := ne_of_none eA6 hd
        have m8 := (mts6.same S7).but ed (fun z => z.2 hd4) B8
        obtain ⟨ms, hms, hmn, hml, hmok⟩ := m8
        have hlen : ms.length = ns.length := by have := congrArg List.length hml; rwa [List.length_map] at this
        have hlds : lds.length = l := by have := congrArg List.length hln; rwa [List.length_map, hll] at this
        refine k d H8 ⟨sd, ms, lds⟩ (But.ext (((B4.trans B5).trans B6).same S7) hd0 B8) (((P6.same S7).butne B8 npd).mono (by omega)) ⟨A, C, acc, ys, hd0, hA0, hC0, e8, B8 _ _ nAd (S7 _ _ eA6), Paired.mapP hms fun _ _ q => q.imp fun a h => h.1.1, B8 _ _ nCd (S7 _ _ eC), dpAll_butN ed trivial B8 (noL_map noL_load _) (hld.same S7)⟩ ⟨hsd, by show 1 ≤ ms.length; omega, by show ms.length ≤ 3; omega, fun m hm => hnm _ (hmn ▸ List.mem_map.mpr ⟨m, hm, rfl⟩), by show (ms.map (·.1)).Nodup; rw [hmn]; exact hnd, fun m hm => ?_, by show lds.length ≤ 2; omega, fun q hq => ⟨hlnm _ (hln ▸ List.mem_map.mpr ⟨q, hq, rfl⟩), hlok q hq⟩, by show (lds.map (·.1)).Nodup; rw [hln]; exact hlnd⟩ hml hlds
        obtain ⟨h1, h4⟩ := hnk m.2.length (hml ▸ List.mem_map.mpr ⟨m, hm, rfl⟩)
        exact ⟨fun z => by rw [z] at h1; exact absurd h1 (by decide), h4, hmok m hm⟩
theorem sc__law_near_source : FnScope ["_law_pot_here", "_law_lore_here", "_law_setting", "_law_some_here", "_law_row", "_law_ohms", "_law_share", "_law_volts"] ["_law_pot_here", "_law_lore_here"] (defScope s__law_near_source) := ⟨rfl, rfl, rfl, by decide +kernel, rfl, by decide +kernel, by decide +kernel⟩
theorem ok__law_near_source (T : Tx K mg) : FnAt P w K mg base CX0 5 (He.ga K "_law_near_source") ["_law_pot_here", "_law_lore_here"] (spNearDraw K) := by
  refine T.f__law_near_source.f.ok sc__law_near_source ?_ (fun cdv A outer s H vs Q E hr h => ?_)
  · walk_at "len"
  · obtain ⟨p, d, n, F, L, rfl, hP, hn, hL, hFp, okL, h16, k⟩ := h
    refine ⟨_, (pss_cons (ps_set (i := 2) sc__law_near_source.nd rfl (.inl rfl) (pe_fn T.f__law_of (ok__law_of T) (hr.mono (by decide)) (pa_cons (pv 0) (pa_cons (pe_fn T.f__law_settings (ok__law_settings T) (hr.mono (by decide)) (pa_cons (pv 1) pa_nil)) pa_nil))))
      (pss_cons (ps_setLc (i := 3) (own := [("_law_row", 4)]) rfl sc__law_near_source.nd rfl rfl (sw_true rfl rfl rfl (by decide +kernel)) (pi_list (pe_fn T.f__law_rows (ok__law_rows T) (hr.mono (by decide)) (pa_cons (pv 1) (pa_cons (pv 2) pa_nil)))) (blkOk_by (own := [("_law_row", 4)]) (N := ["_law_pot_here", "_law_lore_here", "_law_setting", "_law_some_here", "_law_row", "_law_ohms", "_law_share", "_law_volts"]) (sc := defScope s__law_near_source) (by decide +kernel)) (fun _ _ _ _ _ => (pg_name (i := 4) sc__law_near_source.nd rfl (.inl rfl))) (fun _ _ _ _ _ => (pts_one (pt_cmpR op_notN (pe_ix (ix_seqK (K := K) rfl) (pv 4) pe_int (fun _ _ => rfl)) pe_non (nomark _)))) (fun _ _ _ _ _ => (pe_ix (ix_seqK (K := K) rfl) (pv 4) pe_int (fun _ _ => rfl))))
      (pss_cons (ps_set (i := 3) sc__law_near_source.nd rfl (.inl rfl) (pe_op op_cat (pv 3) (pe_lc (own := [("_law_row", 4)]) rfl sc__law_near_source.nd (pi_list (pe_fn T.f__law_rows (ok__law_rows T) (hr.mono (by decide)) (pa_cons (pv 1) (pa_cons (pv 2) pa_nil)))) (blkOk_by (own := [("_law_row", 4)]) (N := ["_law_pot_here", "_law_lore_here", "_law_setting", "_law_some_here", "_law_row", "_law_ohms", "_law_share", "_law_volts"]) (sc := defScope s__law_near_source) (by decide +kernel)) (fun _ _ _ _ _ => (pg_name (i := 4) sc__law_near_source.nd rfl (.inl rfl))) (fun _ _ _ _ _ => (pts_one (pt_cmpR op_notN (pe_ix (ix_seqK (K := K) rfl) (pv 4) pe_int (fun _ _ => rfl)) pe_non (nomark _)))) (fun _ _ _ _ _ => (pe_fn T.f__law_lower (ok__law_lower T) (hr.mono (by decide)) (pa_cons (pv 1) (pa_cons (pv 4) pa_nil)))))))
      (pss_cons (ps_set (i := 5) sc__law_near_source.nd rfl (.inl rfl) (pe_fn T.f__law_pair (ok__law_pair T) (hr.mono (by decide)) (pa_cons (pe_fn T.f__law_take (ok__law_take T) (hr.mono (by decide)) (pa_cons (pv 0) (pa_cons pe_int pa_nil))) (pa_cons (pe_op op_add pe_int (pe_fn T.f__law_take (ok__law_take T) (hr.mono (by decide)) (pa_cons (pv 0) (pa_cons pe_int pa_nil)))) pa_nil))))
      (pss_cons (ps_set (i := 6) sc__law_near_source.nd rfl (.inl rfl) (pe_fn T.f__law_plus (ok__law_plus T) (hr.mono (by decide)) (pa_cons (pe_tup (pa_cons pe_int (pa_cons pe_int pa_nil))) (pa_cons (pe_fn T.f__law_times (ok__law_times T) (hr.mono (by decide)) (pa_cons (pv 5) (pa_cons (pe_fn T.f__law_draw (ok__law_draw T) (hr.mono (by decide)) (pa_cons (pv 1) (pa_cons (pv 2) pa_nil))) pa_nil))) pa_nil))))
      (pss_cons (ps_set (i := 7) sc__law_near_source.nd rfl (.inl rfl) (pe_fn T.f__law_times (ok__law_times T) (hr.mono (by decide)) (pa_cons (pe_fn T.f__law_of (ok__law_of T) (hr.mono (by decide)) (pa_cons (pv 0) (pa_cons (pe_op op_cat (pv 3) (pe_lst (pa_cons (pe_tup (pa_cons pe_int (pa_cons pe_int pa_nil))) pa_nil))) pa_nil))) (pa_cons (pv 6) pa_nil))))
      (pss_cons (ps_set (i := 7) sc__law_near_source.nd rfl (.inl rfl) (pe_fn T.f__law_of (ok__law_of T) (hr.mono (by decide)) (pa_cons (pv 0) (pa_cons (pe_lst (pa_cons (pv 7) (pa_cons (pv 7) (pa_cons (pe_fn T.f__law_plus (ok__law_plus T) (hr.mono (by decide)) (pa_cons (pv 7) (pa_cons (pe_tup (pa_cons pe_int (pa_cons pe_int pa_nil))) pa_nil))) (pa_cons (pe_fn T.f__law_times (ok__law_times T) (hr.mono (by decide)) (pa_cons (pv 7) (pa_cons (pe_tup (pa_cons pe_int (pa_cons pe_int pa_nil))) pa_nil))) pa_nil))))) pa_nil))))
      (pss_one (ps_ret (pe_tup (pa_cons (pv 7) (pa_cons (pv 5) pa_nil)))))))))))), ?_⟩
    refine My.i_go (σ' := [some _, some _, none, none, none, none, none, none]) rfl ?_
    repeat walk_at "h"
    refine ⟨d, F, L, rfl, hL, okL, h16, fun r1 H1 zs ts S1 r10 er1 hzs hts ht1 ht16 => ?_⟩
    have hzl : zs.length = ts.length := by have := dpAll_len hzs; rwa [List.length_map] at this
    repeat walk_at "h"
    refine ⟨p, r1, zs, n, rfl, hP.same S1, by omega, (hP.ne r10).symm, .of er1, by omega, by omega, fun x H2 hxz P2 B2 => ?_⟩
    obtain ⟨ix, hix⟩ := List.mem_iff_getElem?.mp hxz
    obtain ⟨dx, hdx, hxd0⟩ := dpAll_get hzs hix
    rw [List.getElem?_map] at hdx
    obtain ⟨t, ht, rfl⟩ := Option.map_eq_some_iff.mp hdx
    have htin := hts t (List.mem_of_getElem? ht)
    obtain ⟨l1, ep1⟩ := (hP.same S1).some
    have hxd := dp_butN ep1 trivial B2 (noL_setting t) hxd0
    have hL2 : LoreAt K F H2 d L := (hL.same S1).but ep1 hFp B2
    have B02 : But p H H2 := S1.but.trans B2
    clear hxd0 hzs hix ht B2
    repeat walk_at "h"
    refine ⟨d, F, L, x, t, rfl, hL2, okL, hxd, htin, fun r3 H3 ws S3 r30 er3 hws => ?_⟩
    have hwl : ws.length = (rowsAt L t).length := by have := dpAll_len hws; rwa [List.length_map] at this
    have hr3 := rowsAt_len okL t
    repeat walk_at "h"
    refine lcq_n (n := ws.length) (fun A q H' acc => H3 A = none ∧ Same H3 H' ∧ H' A = some (.lst acc) ∧ acc.length ≤ q ∧ ∃ qs : List Rat, DpAll K H' acc (qs.map ratD) ∧ ∀ q ∈ qs, Sz 20 q ∧ 0 ≤ q) (fun A H' S hA e => ⟨hA, S, e, Nat.zero_le _, [], .nil, fun q hq => by cases hq⟩) (fun A q H' acc hi ⟨_, S, _⟩ => ⟨_, _, .of (S _ _ er3), List.getElem?_eq_getElem hi⟩) (fun A H' acc ⟨_, S, _⟩ => ⟨_, .of (S _ _ er3), Nat.le_refl _⟩) ?_ ?_
    · rintro A q y H4 H4' acc hq ⟨hA, S4, eA, hal, qs, hqs, hq0⟩ ⟨rfl, hy⟩
      have hy := hy _ (.of (S4 _ _ er3))
      obtain ⟨dy, hdy, hyd⟩ := dpAll_get (hws.same S4) hy
      rw [List.getElem?_map] at hdy
      obtain ⟨r2, hr2, rfl⟩ := Option.map_eq_some_iff.mp hdy
      obtain ⟨ah, rok⟩ := rowsAt_ok okL (List.mem_of_getElem? hr2)
      obtain ⟨ar, g, u, d', t2, rfl, hc, _, _, _, hU⟩ := row_dp hyd
      rcases opt_dp hU with ⟨eU, rfl⟩ | ⟨qU, b, eU, rfl, hb⟩
      · repeat walk_at "h"
        refine ⟨rfl, ?_⟩
        repeat walk_at "h"
        rw [if_neg (by decide)]
        exact ⟨_, hA, S4, eA, Nat.le_succ_of_le hal, qs, hqs, hq0⟩
      · repeat walk_at "h"
        refine ⟨rfl, ?_⟩
        repeat walk_at "h"
        refine turnC_end eA (by omega) fun H5 B5 e5 => ⟨hA, Same.ext S4 hA B5, e5, by rw [List.length_append, List.length_singleton]; omega, qs ++ [qU], ?_, fun q2 hq2 => ?_⟩
        · rw [List.map_append]
          exact dpAll_snoc (dpAll_butN eA trivial B5 (noL_map noL_rat _) hqs) (dp_butN eA trivial B5 (noL_rat qU) (dp_rat hb))
        · rcases List.mem_append.mp hq2 with hq2 | hq2
          · exact hq0 _ hq2
          · rw [List.mem_singleton.mp hq2]
            obtain ⟨o1, o2⟩ := rok.u qU eU
            exact ⟨o1.sz14.mono (by decide), o1.nn⟩
    rintro A H4 acc ⟨hA, S4, eA, hal, qs, hqs, hq0⟩
    clear hws
    have hL4 := hL2.same (S3.trans S4)
    have hxd4 := hxd.same (S3.trans S4)
    repeat walk_at "h"
    refine ⟨d, F, L, x, t, rfl, hL4, okL, hxd4, htin, fun r5 H5 ws5 S5 r50 er5 hws5 => ?_⟩
    have hwl5 : ws5.length = (rowsAt L t).length := by have := dpAll_len hws5; rwa [List.length_map] at this
    repeat walk_at "h"
    refine lcq_n (n := ws5.length) (fun A q H' acc => H5 A = none ∧ Same H5 H' ∧ H' A = some (.lst acc) ∧ acc.length ≤ q ∧ ∃ qs : List Rat, DpAll K H' acc (qs.map ratD) ∧ ∀ q ∈ qs, Sz 20 q ∧ 0 ≤ q) (fun A H' S hA e => ⟨hA, S, e, Nat.zero_le _, [], .nil, fun q hq => by cases hq⟩) (fun A q H' acc hi ⟨_, S, _⟩ => ⟨_, _, .of (S _ _ er5), List.getElem?_eq_getElem hi⟩) (fun A H' acc ⟨_, S, _⟩ => ⟨_, .of (S _ _ er5), Nat.le_refl _⟩) ?_ ?_
    · rintro A q y H6 H6' acc hq ⟨hA, S6, eA, hal, qs, hqs, hq0⟩ ⟨rfl, hy⟩
      have hy := hy _ (.of (S6 _ _ er5))
      obtain ⟨dy, hdy, hyd⟩ := dpAll_get (hws5.same S6) hy
      rw [List.getElem?_map] at hdy
      obtain ⟨r2, hr2, rfl⟩ := Option.map_eq_some_iff.mp hdy
      obtain ⟨ah, rok⟩ := rowsAt_ok okL (List.mem_of_getElem? hr2)
      have hyd0 := hyd
      obtain ⟨ar, g, u, d', t2, rfl, hc, _, _, hD, _⟩ := row_dp hyd
      rcases opt_dp hD with ⟨eD, rfl⟩ | ⟨qD, b, eD, rfl, hb⟩
      · repeat walk_at "h"
        refine ⟨rfl, ?_⟩
        repeat walk_at "h"
        rw [if_neg (by decide)]
        exact ⟨_, hA, S6, eA, Nat.le_succ_of_le hal, qs, hqs, hq0⟩
      · repeat walk_at "h"
        refine ⟨rfl, ?_⟩
        repeat walk_at "h"
        have hqD : RatOk qD := by
          by_cases h : ah = []
          · rw [rok.d.1 h] at eD; cases eD
          · obtain ⟨q2, e2, o2⟩ := rok.d.2 h
            rw [eD] at e2; cases e2; exact o2
        refine ⟨d, ar, F, L, r2, ah, rfl, hL4.same (S5.trans S6), okL, hyd0, rok, fun v7 H7 S7 hv7 => ?_⟩
        rw [show (lowR L.spread r2).D = some (lowQ L.spread qD) by show r2.D.map _ = _; rw [eD]; rfl] at hv7
        refine turnC_end (S7 _ _ eA) (by omega) fun H8 B8 e8 => ⟨hA, Same.ext (S6.trans S7) hA B8, e8, by rw [List.length_append, List.length_singleton]; omega, qs ++ [lowQ L.spread qD], ?_, fun q2 hq2 => ?_⟩
        · rw [List.map_append]
          exact dpAll_snoc (dpAll_butN (S7 _ _ eA) trivial B8 (noL_map noL_rat _) (hqs.same S7)) (dp_butN (S7 _ _ eA) trivial B8 (noL_rat _) hv7)
        · rcases List.mem_append.mp hq2 with hq2 | hq2
          · exact hq0 _ hq2
          · rw [List.mem_singleton.mp hq2]
            exact hqD.low okL.spread
    rintro A6 H6 acc6 ⟨hA6, S6, eA6, hal6, qs6, hqs6, hq06⟩
    clear hws5
    have S46 := S5.trans S6
    repeat walk_at "h"
    refine i_catL (S46 _ _ eA) eA6 (Nat.le_trans (show acc.length + acc6.length ≤ 20 by omega) (by decide)) fun l7 H7 S7 l70 el7 => ?_
    have S27 := S3.trans (S4.trans (S46.trans S7))
    have hall : DpAll K H7 (acc ++ acc6) ((qs ++ qs6).map ratD) := by
      rw [List.map_append]
      exact dpAll_app (hqs.same (S46.trans S7)) (hqs6.same S7)
    have hall0 : ∀ q ∈ qs ++ qs6, Sz 20 q ∧ 0 ≤ q := fun q hq => (List.mem_append.mp hq).elim (hq0 q) (hq06 q)
    have hall_len : (acc ++ acc6).length ≤ 6 := by rw [List.length_append]; omega
    generalize acc ++ acc6 = zz at *
    generalize qs ++ qs6 = qq at *
    have P7 := P2.same S27
    have hL7 := hL2.same S27
    have hx7 := hxd.same S27
    clear hqs hqs6 hq0 hq06 eA eA6 er3 er5 hal hal6 hxd4 hL4
    repeat walk_at "h"
    refine ⟨p, 30, n + 1, rfl, P7, by omega, by decide, by decide, fun r8 H8 r80 r81 P8 B8 => ?_⟩
    repeat walk_at "h"
    refine ⟨p, 3, n + 1 + 1, rfl, P8, by omega, by decide, by decide, fun r9 H9 r90 r91 P9 B9 => ?_⟩
    repeat walk_at "h"
    refine ⟨r8, 1 + r9, rfl, by omega, by omega, by omega, fun p10 H10 S10 p100 e10 => ?_⟩
    obtain ⟨zo, oo⟩ := small_pair r80 (show r8 < 16000 by omega) (show 0 < 1 + r9 by omega) (by omega)
    have B710 : But p H7 H10 := (B8.trans B9).trans S10.but
    have P10 := P9.same S10
    obtain ⟨l7', ep7⟩ := P7.some
    have hp7 : p ≠ l7 := P2.ne ((S3.trans (S4.trans S46)).free l70)
    have el10 := B710 _ _ hp7.symm el7
    have hall10 := dpAll_butN ep7 trivial B710 (noL_map noL_rat _) hall
    have hL10 := hL7.but ep7 hFp B710
    have hx10 := dp_butN ep7 trivial B710 (noL_setting t) hx7
    generalize (r8 : Rat) / ((1 + r9 : Int) : Rat) = ohm at *
    clear hall el7 hx7 hL7 P8 P9 ep7
    repeat walk_at "h"
    rename_i p11 H11 S11 p110 e11
    refine ⟨d, F, L, x, t, rfl, hL10.same S11, okL, hx10.same S11, htin, fun p12 H12 S12 hp12 => ?_⟩
    obtain ⟨zd, d0⟩ := drawQ_sz okL t
    repeat walk_at "h"
    have e10' : SqT K H12 p10 (rat ohm) := .of (S12 _ _ (S11 _ _ e10))
    refine ⟨p10, p12, ohm, _, 76, rfl, e10', hp12, zo.mono (by decide), zd, by decide, trivial, fun p13 H13 S13 p130 e13 => ?_⟩
    have zm : Sz 90 (ohm * drawQ L t) := zo.mul2 zd
    have zs : Sz 91 (1 + ohm * drawQ L t) := zm.one_add (by decide)
    have s0 := one_pos oo d0
    repeat walk_at "h"
    refine ⟨p11, p13, 1, _, 91, rfl, .of (S13 _ _ (S12 _ _ e11)), .of e13, sz_one (by decide), zm.mono (by decide), by decide, trivial, fun p14 H14 S14 p140 e14 => ?_⟩
    have S1014 := S11.trans (S12.trans (S13.trans S14))
    have e14 : H14 p14 = some (.tup (rat (1 + ohm * drawQ L t))) := e14
    generalize 1 + ohm * drawQ L t = shr at *
    have el14 := S1014 _ _ el10
    have hall14 := hall10.same S1014
    have P14 := P10.same S1014
    have ho14 : SqT K H14 p10 (rat ohm) := .of (S1014 _ _ e10)
    have B014 : But p H H14 := ((B02.trans S27.but).trans B710).trans S1014.but
    clear e10 e11 e13 e10' hp12 hL10 hx10 hall10 el10 P10 P7 P2 hxd hL2 zm zd d0 B710
    repeat walk_at "h"
    rename_i p15 H15 S15 p150 e15 l16 H16 S16 l160 el16
    have el15 := S15 _ _ el14
    refine i_catL (S16 _ _ el15) el16 (Nat.le_trans (show zz.length + 1 ≤ 20 by omega) (by decide)) fun l17 H17 S17 l170 el17 => ?_
    have S1417 := S15.trans (S16.trans S17)
    have hall17 : DpAll K H17 (zz ++ [.ref p15]) ((qq ++ [3]).map ratD) := by
      rw [List.map_append]
      exact dpAll_app (hall14.same S1417) (.cons (dp_rat (.of (S17 _ _ (S16 _ _ e15)))) .nil)
    have hq17 : ∀ q ∈ qq ++ [3], Sz 20 q ∧ 0 ≤ q := fun q hq => by
      rcases List.mem_append.mp hq with hq | hq
      · exact hall0 q hq
      · rw [List.mem_singleton.mp hq]
        exact ⟨⟨by decide +kernel, by decide +kernel⟩, by decide +kernel⟩
    have P17 := P14.same S1417
    repeat walk_at "h"
    refine ⟨p, l17, _, n + 1 + 1 + 1, rfl, P17, by omega, (P14.ne ((S15.trans S16).free l170)).symm, .of el17, by rw [List.length_append]; exact Nat.lt_of_lt_of_le Nat.zero_lt_one (Nat.le_add_left _ _), by rw [List.length_append]; show zz.length + 1 < 1000000; omega, fun v H18 hv P18 B18 => ?_⟩
    obtain ⟨iv, hiv⟩ := List.mem_iff_getElem?.mp hv
    obtain ⟨dv, hdv, hvd⟩ := dpAll_get hall17 hiv
    rw [List.getElem?_map] at hdv
    obtain ⟨th, hth, rfl⟩ := Option.map_eq_some_iff.mp hdv
    obtain ⟨zt, t0⟩ := hq17 th (List.mem_of_getElem? hth)
    obtain ⟨at9, rfl, hat9⟩ := rat_dp hvd
    have hat18 := P17.but B18 hat9
    have e14' := P17.but B18 (S1417.seqT (.of e14 : SqT K H14 p14 _))
    have ho18 := P17.but B18 (S1417.seqT ho14)
    have B018 : But p H H18 := (B014.trans S1417.but).trans B18
    clear hall17 hq17 hdv hiv hv hth hvd hall14 el14 el15 el16 el17 hall0 e14 ho14 e15
    repeat walk_at "h"
    refine ⟨at9, p14, th, shr, 91, rfl, hat18, e14', zt.mono (by decide), zs, by decide, trivial, fun p19 H19 S19 p190 e19 => ?_⟩
    have zv : Sz 111 (th * shr) := zt.mul2 zs
    have v0 : 0 ≤ th * shr := Rat.mul_nonneg t0 (Rat.le_of_lt s0)
    have e19 : H19 p19 = some (.tup (rat (th * shr))) := e19
    generalize th * shr = vol at *
    repeat walk_at "h"
    rename_i p20 H20 S20 p200 e20
    refine ⟨p19, p20, vol, 1 / 7, 111, rfl, .of (S20 _ _ e19), .of (by rw [rat17]; exact e20), zv, ⟨by decide +kernel, by decide +kernel⟩, by decide, trivial, fun p21 H21 S21 p210 e21 => ?_⟩
    repeat walk_at "h"
    rename_i p22 H22 S22 p220 e22
    refine ⟨p19, p22, vol, 6 / 7, 111, rfl, .of (S22 _ _ (S21 _ _ (S20 _ _ e19))), .of (by rw [rat67]; exact e22), zv, ⟨by decide +kernel, by decide +kernel⟩, by decide, trivial, fun p23 H23 S23 p230 e23 => ?_⟩
    repeat walk_at "h"
    rename_i l24 H24 S24 l240 el24
    obtain ⟨⟨za, na⟩, zb, nb⟩ := vol_more zv v0
    have S1824 := S19.trans (S20.trans (S21.trans (S22.trans (S23.trans S24))))
    have P24 := P18.same S1824
    refine ⟨p, l24, _, n + 1 + 1 + 1 + 1, rfl, P24, by omega, (P18.ne ((S19.trans (S20.trans (S21.trans (S22.trans S23)))).free l240)).symm, .of el24, by show 0 < 4; decide, by show 4 < 1000000; decide, fun v H25 hv P25 B25 => ?_⟩
    obtain ⟨a25, vf, rfl, hvf, zf, nf⟩ : ∃ a q, v = .ref a ∧ SqT K H24 a (rat q) ∧ Sz 120 q ∧ 0 ≤ q := by
      simp only [List.mem_cons, List.not_mem_nil, or_false] at hv
      rcases hv with rfl | rfl | rfl | rfl
      · exact ⟨_, vol, rfl, .of (S24 _ _ (S23 _ _ (S22 _ _ (S21 _ _ (S20 _ _ e19))))), zv.mono (by decide), v0⟩
      · exact ⟨_, vol, rfl, .of (S24 _ _ (S23 _ _ (S22 _ _ (S21 _ _ (S20 _ _ e19))))), zv.mono (by decide), v0⟩
      · exact ⟨_, _, rfl, .of (S24 _ _ (S23 _ _ (S22 _ _ e21))), za, na⟩
      · exact ⟨_, _, rfl, .of (S24 _ _ e23), zb, nb⟩
    have hvf25 := P24.but B25 hvf
    have ho25 := P24.but B25 (S1824.seqT ho18)
    have B025 : But p H H25 := (B018.trans S1824.but).trans B25
    clear hv hvf e19 e20 e21 e22 e23 el24
    repeat walk_at "h"
    rename_i p26 H26 S26 p260 e26
    exact k p26 H26 _ _ (B025.trans S26.but) ((P25.same S26).mono (by omega)) ⟨_, _, .of e26, S26.seqT hvf25, S26.seqT ho25, nf, oo, zf, zo⟩
theorem ok_ascending_4 (T : Tx K mg) : FnAt P w K mg base CX0 6 (He.ga K "ascending") ["rows"] (spAsc K 4) := by
  refine T.f_ascending.f.ok sc_ascending ?_ (fun cdv A outer s H vs Q E hr h => ?_)
  · walk_at "len"
  · obtain ⟨a, xs, ds, rfl, hl, hx, nd, hF, h1, h2, k⟩ := h
    have hxl := dpAll_len hx
    refine ⟨_, (pss_cons (ps_if (pt_cmpR op_lt (pe_callB cr_len rfl T.b_len (by decide +kernel) (pa_cons (pv 0) pa_nil)) pe_int (nomark _)) (pss_one (ps_ret (pe_callTy cr_tupN rfl T.b_tuple (by decide +kernel) (pa_cons (pv 0) pa_nil)))) pss_nil)
      (pss_cons (ps_set (i := 1) sc_ascending.nd rfl (.inl rfl) (pe_op op_fdivW (pe_callB cr_len rfl T.b_len (by decide +kernel) (pa_cons (pv 0) pa_nil)) pe_int))
      (pss_one (ps_ret (pe_fn T.f_merged (ok_merged T) (hr.mono (by decide)) (pa_cons (pe_fn T.f_ascending (ok_ascending_3 T) (hr.mono (by decide)) (pa_cons (pe_slice sl_list (pv 0) po_none (po_some (pv 1))) pa_nil)) (pa_cons (pe_fn T.f_ascending (ok_ascending_3 T) (hr.mono (by decide)) (pa_cons (pe_slice sl_list (pv 0) (po_some (pv 1)) po_none) pa_nil)) pa_nil))))))), ?_⟩
    refine My.i_go (σ' := [some _, none]) rfl ?_
    repeat walk_at "h"
    refine i_lenL hl ?_
    repeat walk_at "h"
    refine ite2 (fun hs => ?_) (fun hs => ?_)
    · have hs := of_decide_eq_true hs
      repeat walk_at "h"
      refine i_tupN hl fun p H1 S1 hp e1 => k p H1 S1 ?_
      rw [srt_few (by omega)]
      exact .tup (.of e1) (hx.same S1)
    have hs : ¬ ((xs.length : Int) < 2) := fun z => hs (decide_eq_true z)
    have hs2 : ¬ ds.length < 2 := by omega
    rw [srt_step hs2] at k
    have hp2 := pow2 3
    repeat walk_at "h"
    refine i_lenL hl ?_
    repeat walk_at "h"
    have eh : (xs.length : Int) / 2 = ((ds.length / 2 : Nat) : Int) := by omega
    rw [eh]
    refine i_slL hl fun p1 H1 S1 hp1 e1 => ?_
    rw [cut_to (by omega)] at e1
    repeat walk_at "h"
    refine ⟨p1, _, ds.take (ds.length / 2), rfl, .of e1, dpAll_take _ (hx.same S1), (noLAll_iff _).mpr fun d hd => (noLAll_iff ds).mp nd d (List.mem_of_mem_take hd), hF.sub fun d hd => List.mem_of_mem_take hd, by rw [List.length_take]; omega, by rw [List.length_take]; omega, fun q2 H2 S2 d2 => ?_⟩
    repeat walk_at "h"
    refine i_slL (S2.seq (S1.seq hl)) fun p3 H3 S3 hp3 e3 => ?_
    rw [cut_from (by omega)] at e3
    repeat walk_at "h"
    refine ⟨p3, _, ds.drop (ds.length / 2), rfl, .of e3, dpAll_drop _ (hx.same ((S1.trans S2).trans S3)), (noLAll_iff _).mpr fun d hd => (noLAll_iff ds).mp nd d (List.mem_of_mem_drop hd), hF.sub fun d hd => List.mem_of_mem_drop hd, by rw [List.length_drop]; omega, by rw [List.length_drop]; omega, fun q4 H4 S4 d4 => ?_⟩
    repeat walk_at "h"
    have m2 : ∀ d ∈ srt 3 (ds.take (ds.length / 2)), d ∈ ds := fun d hd => List.mem_of_mem_take (srt_mem _ _ d hd)
    have m4 : ∀ d ∈ srt 3 (ds.drop (ds.length / 2)), d ∈ ds := fun d hd => List.mem_of_mem_drop (srt_mem _ _ d hd)
    refine ⟨q2, q4, _, _, rfl, (d2.same S3).same S4, d4, (noLAll_iff _).mpr fun d hd => (noLAll_iff ds).mp nd d (m2 d hd), (noLAll_iff _).mpr fun d hd => (noLAll_iff ds).mp nd d (m4 d hd), hF.sub fun d hd => ?_, by rw [srt_len, srt_len, List.length_take, List.length_drop]; omega, fun q5 H5 S5 d5 => k q5 H5 ((((S1.trans S2).trans S3).trans S4).trans S5) d5⟩
    rcases List.mem_append.mp hd with hd | hd
    · exact m2 d hd
    · exact m4 d hd
theorem sc_moves_at : FnScope ["bench", "setting", "load", "found", "meter", "row", "way", "threshold", "step", "line"] ["bench", "setting"] (defScope s_moves_at) := ⟨rfl, rfl, rfl, by decide +kernel, rfl, by decide +kernel, by decide +kernel⟩
theorem ok_moves_at (T : Tx K mg) : FnAt P w K mg base CX0 6 (He.ga K "moves_at") ["bench", "setting"] (spMovesAt K (He.ga K "Bench")) := by
  refine T.f_moves_at.f.ok sc_moves_at ?_ (fun cdv A outer s H vs Q E hr h => ?_)
  · walk_at "len"
  · obtain ⟨b, L, x, s', rfl, hB, okL, hx, hs, k⟩ := h
    obtain ⟨zd, d0⟩ := drawQ_sz okL s'
    have hrl := rowsAt_len' okL hs
    have hm3 := okL.m3
    refine ⟨_, (pss_cons (ps_set (i := 2) sc_moves_at.nd rfl (.inl rfl) (pe_fn T.f_draw_of (ok_draw_of T) (hr.mono (by decide)) (pa_cons (pv 0) (pa_cons (pv 1) pa_nil))))
      (pss_cons (ps_set (i := 3) sc_moves_at.nd rfl (.inl rfl) (pe_lst pa_nil))
      (pss_cons (ps_for PassesOwn.never rfl (pi_zipX rfl T.b_zip (pa_cons (pe_pr T.c_Bench T.p_Bench_meters (ok_Bench_meters T) (hr.mono (by decide)) (pv 0)) (pa_cons (pe_fn T.f_ranges_of (ok_ranges_of T) (hr.mono (by decide)) (pa_cons (pv 0) (pa_cons (pv 1) pa_nil))) pa_nil))) (pg_tup rfl (pgs_cons (pg_name (i := 4) sc_moves_at.nd rfl (.inl rfl)) (pgs_cons (pg_name (i := 5) sc_moves_at.nd rfl (.inl rfl)) pgs_nil))) (pss_one (ps_for PassesOwn.never rfl (pi_zipX rfl T.b_zip (pa_cons (pe_glob (v := .ref _) rfl T.m_WAYS rfl) (pa_cons (pe_slice sl_tupA (pv 5) (po_some pe_int) po_none) pa_nil))) (pg_tup rfl (pgs_cons (pg_name (i := 6) sc_moves_at.nd rfl (.inl rfl)) (pgs_cons (pg_name (i := 7) sc_moves_at.nd rfl (.inl rfl)) pgs_nil))) (pss_one (ps_if (PW.pt (pw_and (pt_cmpR op_notN (pv 7) pe_non (nomark _)) (pw_and1 (pt_cmpR (op_neD hr.units) (pv 7) (pe_glob (v := .ref _) rfl T.m_ZERO rfl) (nomark _))))) (pss_cons (ps_set (i := 8) sc_moves_at.nd rfl (.inl rfl) (pe_tup (pa_cons (pv 4) (pa_cons (pv 6) pa_nil))))
      (pss_cons (ps_set (i := 9) sc_moves_at.nd rfl (.inl rfl) (pe_tup (pa_cons (pv 7) (pa_cons (pe_fn T.f_times (ok_times T) (hr.mono (by decide)) (pa_cons (pv 7) (pa_cons (pv 2) pa_nil))) pa_nil))))
      (pss_one (ps_expr (pe_bm PySem.F.plainAttrs_list PySem.F.slot_list_append PySem.F.type_list_append mt_append (pv 3) (pa_cons (pe_tup (pa_cons (pv 8) (pa_cons (pe_fn T.f_setting_behind (ok_setting_behind T) (hr.mono (by decide)) (pa_cons (pv 0) (pa_cons (pv 1) (pa_cons (pv 8) pa_nil)))) (pa_cons (pv 9) (pa_cons (pe_cmpR op_eq (pv 6) pe_str (nomark _)) pa_nil))))) pa_nil)))))) pss_nil)))))
      (pss_one (ps_ret (pv 3)))))), ?_⟩
    refine My.i_go (σ' := [some _, some _, none, none, none, none, none, none, none, none]) rfl ?_
    repeat walk_at "h"
    refine ⟨b, L, x, s', rfl, hB, okL, hx, hs, fun g1 H1 S1 hg1 => ?_⟩
    repeat walk_at "h"
    rename_i fd H2 S2 fd0' efd
    have fd0 : H fd = none := S1.free fd0'
    have S02 := S1.trans S2
    refine i_zipX ?_
    repeat walk_at "h"
    refine i_bNamesF (hB.same S02) ?_ fun p3 H3 S3 p30 e3 => ?_
    · rw [List.length_map]; omega
    repeat walk_at "h"
    have S03 := S02.trans S3
    refine ⟨b, L, x, s', rfl, hB.same S03, okL, hx.same S03, hs, fun rf H4 zs S4 rf0 erf hzs => ?_⟩
    have hzl : zs.length = (rowsAt L s').length := by have := dpAll_len hzs; rwa [List.length_map] at this
    have S04 := S03.trans S4
    have S24 := S3.trans S4
    have efd4 := S24 _ _ efd
    have nfr : fd ≠ rf := ne_of_none (S3 _ _ efd) rf0
    have hp34 : SqT K H4 p3 _ := S4.seqT e3.sq
    have hg4 := (S2.trans S24).seqT hg1
    repeat walk_at "h"
    refine i_zipXv true false hp34 (.of erf) ?_
    refine forq_zipX (xs := (L.meters.map (·.1)).map V.str) (ys := zs) (by rw [List.length_map, List.length_map, hzl, hrl]) (fun i σ' H' => ∃ (w4 w5 w6 w7 w8 w9 : Option V) (acc : List V), σ' = [some (.ref b), some x, some (.ref g1), some (.ref fd), w4, w5, w6, w7, w8, w9] ∧ But fd H4 H' ∧ H' fd = some (.lst acc) ∧ MovesAt K H' L s' acc (((L.meters.zip (rowsAt L s')).take i).flatMap fun mr => movesR L.spread mr.1.1 mr.2) ∧ acc.length ≤ 2 * i) ⟨none, none, none, none, none, none, [], rfl, .refl _, efd4, .nil, Nat.zero_le _⟩ ?_ ?_ ?_
    · rintro i σ' H' ⟨w4, w5, w6, w7, w8, w9, acc, rfl, B, e, hM, hal⟩
      exact ⟨seqT_but efd4 B hp34, .of (B _ _ nfr.symm erf)⟩
    · rintro i x1 y1 T1 σ' H' H5 hx1 hy1 ⟨w4, w5, w6, w7, w8, w9, acc, rfl, B, e, hM, hal⟩ hT0 S5 eT
      rw [List.getElem?_map, List.getElem?_map, Option.map_map] at hx1
      obtain ⟨m, hm, rfl⟩ := Option.map_eq_some_iff.mp hx1
      have hi3 : i < 3 := by have := (List.getElem?_eq_some_iff.mp hm).1; omega
      obtain ⟨jj, r, hj, hn, hra⟩ := rowsAt_get okL hs hm
      have hmm := List.mem_of_getElem? hm
      obtain ⟨hne, hr4, hro⟩ := okL.rows m hmm
      obtain ⟨dy, hdy, hyd⟩ := dpAll_get (dpAll_butN efd4 trivial B (noL_map (noL_low L.spread) _) hzs) hy1
      rw [List.getElem?_map, hra] at hdy
      cases hdy
      obtain ⟨ar, g, u, d', t2, rfl, hc, _, _, hD, hU⟩ := row_dp (hyd.same S5)
      have SH5 : Same H H5 := (Same.ext S04 fd0 B).trans S5
      have efd5 := S5 _ _ e
      have hM5 := hM.same S5
      have hg5 := S5.seqT (seqT_but efd4 B hg4)
      have hx5 := hx.same SH5
      have hB5 := hB.same SH5
      have hway := T.t_WAYS
      have hstepT : ((L.meters.zip (rowsAt L s')).take (i + 1)).flatMap (fun mr => movesR L.spread mr.1.1 mr.2) = ((L.meters.zip (rowsAt L s')).take i).flatMap (fun mr => movesR L.spread mr.1.1 mr.2) ++ ([mvO m.1 false (lowR L.spread r).D, mvO m.1 true r.U].take 2).flatten := by
        have e : (L.meters.zip (rowsAt L s'))[i]? = some (m, r) := List.getElem?_zip_eq_some.mpr ⟨hm, hra⟩
        rw [List.take_add_one, e, Option.toList_some, List.flatMap_append]
        simp [movesR]
      rw [hstepT]
      generalize ((L.meters.zip (rowsAt L s')).take i).flatMap (fun mr => movesR L.spread mr.1.1 mr.2) = pre at *
      repeat walk_at "h"
      refine i_zipX ?_
      repeat walk_at "h"
      refine i_slA hc fun p6 H6 S6 q6 => ?_
      rw [show (3 : Int) = ((3 : Nat) : Int) from rfl, cut_from (by show 3 ≤ 5; decide)] at q6
      repeat walk_at "h"
      refine i_zipXv true true (hway H6) q6 ?_
      refine forq_zipX (xs := [.str "down", .str "up"]) (ys := [d', t2]) rfl (fun q σ' H' => ∃ (u6 u7 u8 u9 : Option V) (acc2 : List V), σ' = [some (.ref b), some x, some (.ref g1), some (.ref fd), some (.str m.1), some (.ref ar), u6, u7, u8, u9] ∧ But fd H6 H' ∧ H' fd = some (.lst acc2) ∧ MovesAt K H' L s' acc2 (pre ++ ([mvO m.1 false (lowR L.spread r).D, mvO m.1 true r.U].take q).flatten) ∧ acc2.length ≤ 2 * i + q) ⟨w6, w7, w8, w9, acc, rfl, .refl _, S6 _ _ efd5, by rw [List.take_zero, List.flatten_nil, List.append_nil]; exact hM5.same S6, by omega⟩ ?_ ?_ ?_
      · rintro q σ' H' ⟨u6, u7, u8, u9, acc2, rfl, B7, e7, hM7, hal7⟩
        exact ⟨hway H', seqT_but (S6 _ _ efd5) B7 q6⟩
      · rintro q xw yt T7 σ' H7 H8 hxq hyq ⟨u6, u7, u8, u9, acc2, rfl, B7, e7, hM7, hal7⟩ hT7 S8 eT7
        have e8 := S8 _ _ e7
        have hM8 := hM7.same S8
        have SH8 : Same H H8 := (Same.ext (SH5.trans S6) fd0 B7).trans S8
        have hD8 := (dp_butN (S6 _ _ efd5) trivial B7 (noL_opt _) (hD.same S6)).same S8
        have hU8 := (dp_butN (S6 _ _ efd5) trivial B7 (noL_opt _) (hU.same S6)).same S8
        have hg8 := S8.seqT (seqT_but (S6 _ _ efd5) B7 (S6.seqT hg5))
        obtain ⟨ah, rok⟩ := rowsAt_ok okL (List.mem_of_getElem? hra)
        obtain ⟨up, o, rfl, hyo, hpt, hthr⟩ : ∃ (up : Bool) (o : Option Rat), xw = .str (wayS up) ∧ Dp K H8 yt (optD o) ∧ [mvO m.1 false (lowR L.spread r).D, mvO m.1 true r.U][q]? = some (mvO m.1 up o) ∧ (∀ w, o = some w → Sz 20 w ∧ ∃ (k : Nat) (r' : My.Row), goes m.2.length jj up = some k ∧ m.2[k]? = some r') := by
          match q, hxq, hyq with
          | 0, hxq, hyq =>
            cases hxq
            cases hyq
            refine ⟨false, _, rfl, hD8, rfl, fun w hw => ?_⟩
            rw [show (lowR L.spread r).D = r.D.map (lowQ L.spread) from rfl] at hw
            obtain ⟨qD, hqD, rfl⟩ := Option.map_eq_some_iff.mp hw
            have ok2 := (hro.at hj).1
            have hok : RatOk qD := by
              by_cases h : [] ++ m.2.take jj = []
              · rw [ok2.d.1 h] at hqD; cases hqD
              · obtain ⟨q2, e2, o2⟩ := ok2.d.2 h
                rw [hqD] at e2; cases e2; exact o2
            exact ⟨(hok.low okL.spread).1, goes_down hro hj hqD⟩
          | 1, hxq, hyq =>
            cases hxq
            cases hyq
            refine ⟨true, _, rfl, hU8, rfl, fun w hw => ?_⟩
            exact ⟨(rok.u w hw).1.sz14.mono (by decide), goes_up hro hj hw⟩
          | (n + 2), hxq, hyq => simp at hxq
        have hq2 : q < 2 := by have := (List.getElem?_eq_some_iff.mp hpt).1; simpa using this
        have hnext : pre ++ ([mvO m.1 false (lowR L.spread r).D, mvO m.1 true r.U].take (q + 1)).flatten = pre ++ ([mvO m.1 false (lowR L.spread r).D, mvO m.1 true r.U].take q).flatten ++ mvO m.1 up o := by
          rw [List.take_add_one, hpt, Option.toList_some, List.flatten_append, List.append_assoc]
          simp
        have hZ := T.t_ZERO
        rw [hnext]
        generalize pre ++ ([mvO m.1 false (lowR L.spread r).D, mvO m.1 true r.U].take q).flatten = pr2 at *
        rcases opt_dp hyo with ⟨rfl, rfl⟩ | ⟨w, aw, rfl, rfl, haw⟩
        · repeat walk_at "h"
          rw [if_neg (by decide)]
          repeat walk_at "h"
          exact ⟨_, _, _, _, acc2, rfl, B7.trans S8.but, e8, by show MovesAt K H8 L s' acc2 (pr2 ++ []); rw [List.append_nil]; exact hM8, by omega⟩
        · obtain ⟨zw, k9, r', hg9, hr9'⟩ := hthr w rfl
          repeat walk_at "h"
          refine i_neDQ (q := 0) haw (hZ H8) ?_
          refine ⟨_, rfl, ?_⟩
          by_cases c : w = 0
          · rw [if_neg (by rw [decide_eq_true c]; decide)]
            repeat walk_at "h"
            exact ⟨_, _, _, _, acc2, rfl, B7.trans S8.but, e8, by rw [show mvO m.1 up (some w) = [] from if_pos c, List.append_nil]; exact hM8, by omega⟩
          · rw [if_pos (by rw [decide_eq_false c]; decide), show mvO m.1 up (some w) = [(m.1, up, w)] from if_neg c]
            repeat walk_at "h"
            rename_i st9 H9 S9 st90 est9
            refine ⟨aw, g1, w, _, 76, rfl, S9.seqT haw, S9.seqT hg8, zw.mono (by decide), zd, by decide, trivial, fun p10 H10 S10 p100 e10 => ?_⟩
            repeat walk_at "h"
            rename_i ln11 H11 S11 ln110 eln11
            have S811 := S9.trans (S10.trans S11)
            have SH11 := SH8.trans S811
            have est11 := S11 _ _ (S10 _ _ est9)
            refine ⟨b, st9, L, x, s', i, jj, m, r, up, rfl, hB.same SH11, okL, hx.same SH11, hs, .of est11, hm, hj, hn, fun hno => (by rw [hg9] at hno; cases hno), fun k8 r8 hk8 hr8 vb H12 S12 hvb => ?_⟩
            rw [← behS_eq okL hm hj hn hk8 hr8] at hvb
            repeat walk_at "h"
            rename_i t13 H13 S13 t130 et13
            have S813 := S811.trans (S12.trans S13)
            have e13 := S813 _ _ e8
            refine i_app e13 (Nat.lt_of_lt_of_le (show acc2.length < 100 by omega) (by decide)) fun H14 B14 e14 => ?_
            refine ⟨_, _, _, _, _, rfl, (B7.trans (S8.trans S813).but).trans B14, e14, ?_, by rw [List.length_append, List.length_singleton]; omega⟩
            have ew : (decide ((wayS up : Str) = "up")) = up := by cases up <;> decide +kernel
            have hmv : MoveAt K H13 L s' (.ref t13) (m.1, up, w) := by
              refine ⟨t13, st9, vb, ln11, aw, p10, rfl, .of ?_, S13 _ _ (S12 _ _ est11), hvb.same S13, .of (S13 _ _ (S12 _ _ eln11)), S813.seqT haw, .of (S13 _ _ (S12 _ _ (S11 _ _ e10)))⟩
              rw [et13, ew]
            exact movesAt_snoc ((hM8.same S813).but e13 B14) (hmv.but e13 B14)
      · rintro σ' H7 ⟨u6, u7, u8, u9, acc2, rfl, B7, e7, hM7, hal7⟩
        exact ⟨_, _, _, _, _, _, acc2, rfl, (B.trans (S5.trans S6).but).trans B7, e7, hM7, by simp only [List.length_cons, List.length_nil] at hal7; omega⟩
    · rintro σ' H' ⟨w4, w5, w6, w7, w8, w9, acc, rfl, B, e, hM, hal⟩
      rw [List.length_map, List.length_map, List.take_of_length_le (by rw [List.length_zip]; exact Nat.min_le_left _ _)] at hM
      repeat walk_at "h"
      exact k fd H' acc (Same.ext S04 fd0 B) fd0 e hM
theorem sc_read_meter : FnScope ["lines", "at", "meters", "words", "ranges", "is_last", "found"] ["lines", "at", "meters"] (defScope s_read_meter) := ⟨rfl, rfl, rfl, by decide +kernel, rfl, by decide +kernel, by decide +kernel⟩
theorem ok_read_meter (T : Tx K mg) : FnAt P w K mg base CX0 6 (He.ga K "read_meter") ["lines", "at", "meters"] (spReadMeter K) := by
  refine T.f_read_meter.f.ok sc_read_meter ?_ (fun cdv A outer s H vs Q E hr h => ?_)
  · walk_at "len"
  · obtain ⟨a, d, i, ls, rest, kvs, m, rfl, hl, hlz, hd, hdk, hno, ⟨hnm, hne, h4, hrows⟩, k⟩ := h
    have l0 : ls[i]? = some (meterLine m.1) := by have := drop_get (j := 0) hd; rw [Nat.add_zero] at this; rw [this]; rfl
    refine ⟨_, (pss_cons (ps_set (i := 3) sc_read_meter.nd rfl (.inl rfl) (pe_bm PySem.F.plainAttrs_str PySem.F.slot_str_split PySem.F.type_str_split mt_splitN' (pe_fn T.f_line_at (ok_line_at T) (hr.mono (by decide)) (pa_cons (pv 0) (pa_cons (pv 1) pa_nil))) (pa_cons pe_str pa_nil)))
      (pss_cons (ps_if (PW.pt (pw_or (pt_cmpR op_ne (pe_callB cr_len rfl T.b_len (by decide +kernel) (pa_cons (pv 3) pa_nil)) pe_int (nomark _)) (pw_or (pt_cmpR op_ne (pe_ix ix_seq (pv 3) pe_int (fun _ _ => rfl)) pe_str (nomark _)) (pw_or (pt_not (pt_val (pe_fn T.f_is_name (ok_is_name T) (hr.mono (by decide)) (pa_cons (pe_ix ix_seq (pv 3) pe_int (fun _ _ => rfl)) pa_nil)))) (pw_or1 (pt_cmp (pc_din (hu_of hr) (pe_ix ix_seq (pv 3) pe_int (fun _ _ => rfl)) (pv 2)) rfl)))))) (pss_one ps_never) pss_nil)
      (pss_cons (ps_set (i := 4) sc_read_meter.nd rfl (.inl rfl) (pe_lst pa_nil))
      (pss_cons (ps_set (i := 5) sc_read_meter.nd rfl (.inl rfl) pe_bl)
      (pss_cons (ps_while PassesOwn.never (pt_not (pt_val (pv 5))) (pss_cons (ps_set (i := 1) sc_read_meter.nd rfl (.inl rfl) (pe_op op_add (pv 1) pe_int))
      (pss_cons (ps_set (i := 6) sc_read_meter.nd rfl (.inl rfl) (pe_fn T.f_range_of (ok_range_of T) (hr.mono (by decide)) (pa_cons (pe_fn T.f_line_at (ok_line_at T) (hr.mono (by decide)) (pa_cons (pv 0) (pa_cons (pv 1) pa_nil))) (pa_cons (pv 4) pa_nil))))
      (pss_cons (ps_if (pt_cmpR op_isN (pv 6) pe_non (nomark _)) (pss_one ps_never) pss_nil)
      (pss_cons (ps_expr (pe_bm PySem.F.plainAttrs_list PySem.F.slot_list_append PySem.F.type_list_append mt_append (pv 4) (pa_cons (pv 6) pa_nil)))
      (pss_one (ps_set (i := 5) sc_read_meter.nd rfl (.inl rfl) (pe_cmpR op_isN (pe_ix ix_seq (pv 6) pe_int (fun _ _ => rfl)) pe_non (nomark _)))))))))
      (pss_one (ps_ret (pe_tup (pa_cons (pe_ix ix_seq (pv 3) pe_int (fun _ _ => rfl)) (pa_cons (pv 4) (pa_cons (pe_op op_add (pv 1) pe_int) pa_nil))))))))))), ?_⟩
    refine My.i_go (σ' := [some _, some _, some _, none, none, none, none]) rfl ?_
    repeat walk_at "h"
    refine ⟨a, i, ls, rfl, hl, ?_⟩
    rw [getD_of l0]
    repeat walk_at "h"
    refine i_split (meterLine_split hnm) rfl (Nat.le_trans (Nat.add_le_add_right (meterLine_le hnm) 2) (by decide)) fun p0 H1 S1 hp0 e1 => ?_
    repeat walk_at "h"
    refine i_neF rfl ?_
    repeat walk_at "h"
    rw [decide_eq_true rfl]
    repeat walk_at "h"
    refine ⟨_, rfl, hnm, fun H2 S2 => ?_⟩
    have S02 := S1.trans S2
    have e12 := S2 _ _ e1
    repeat walk_at "h"
    refine i_diS (S02 _ _ hdk) ?_
    rw [hno, Option.isSome_none]
    repeat walk_at "h"
    rename_i p4 H4 S4 hp4 e4
    have S04 := S02.trans S4
    refine while_by (fun σ H' => ∃ (j : Nat) (fd : Option V) (xs : List V), σ = [some (.ref a), some (.int ((i + j : Nat) : Int)), some (.ref d), some (.ref p0), some (.ref p4), some (.bl (decide (j = m.2.length))), fd] ∧ j ≤ m.2.length ∧ H' p4 = some (.lst xs) ∧ DpAll K H' xs ((m.2.take j).map rowD) ∧ Same H2 H') (fun σ _ => match σ[1]? with | some (some (V.int r)) => 1000 - r.toNat | _ => 0) ⟨0, none, [], ?_, Nat.zero_le _, e4, .nil, S4⟩ ?_ (fun σ H Q Q' hQ h => ?_)
    · rw [decide_eq_false (fun z => hne (List.length_eq_zero_iff.mp z.symm))]
      rfl
    · rintro σ' H' ⟨j, fd, xs, rfl, hj, e5, hx, S5⟩
      repeat walk_at "h"
      by_cases hjl : j = m.2.length
      · refine ite_nd hjl ?_
        repeat walk_at "h"
        rename_i pz H6 S6 hpz ez
        have S06 := (S02.trans S5).trans S6
        rw [hjl, List.take_length] at hx
        have eI : ((i + j : Nat) : Int) + 1 = ((i + 1 + m.2.length : Nat) : Int) := by omega
        rw [eI] at ez
        exact k pz p4 H6 xs S06 ((S02.trans S5).free hpz) (S02.free hp4) ez (S6 _ _ e5) (hx.same S6)
      · refine ite_ndn hjl ?_
        repeat walk_at "h"
        have hlt : j < m.2.length := by omega
        obtain ⟨hro, hU1, hU2⟩ := hrows.get (j := j) (r := m.2[j]) (List.getElem?_eq_getElem hlt)
        rw [List.nil_append] at hro
        have lj : ls[i + j + 1]? = some (rowLine m.2[j]) := by
          have := drop_get (j := j + 1) hd
          rw [show i + (j + 1) = i + j + 1 by omega] at this
          rw [this]
          unfold meterLines
          simp [List.getElem?_append, hlt]
        have hlen : i + j + 1 < ls.length := (List.getElem?_eq_some_iff.mp lj).1
        have S05 := S02.trans S5
        refine ⟨a, i + j + 1, ls, rfl, S05.seq hl, ?_⟩
        rw [getD_of lj]
        repeat walk_at "h"
        have htk : (m.2.take j).length = j := by rw [List.length_take]; omega
        refine ⟨m.2[j], p4, xs, m.2.take j, rfl, e5, hx, hro, by omega, fun z => ?_, fun p H6 S6 hp6 d6 => ?_⟩
        · rw [htk]
          have : ¬ (j + 1 = m.2.length) := fun q => z (hU2 q)
          omega
        repeat walk_at "h"
        have hxl : xs.length = j := by have := dpAll_len hx; rw [List.length_map, htk] at this; exact this
        refine i_app (S6 _ _ e5) (by rw [hxl]; exact Nat.lt_of_lt_of_le (show j < 4 by omega) (by decide)) fun H7 B7 e7 => ?_
        have d7 := dp_butN (S6 _ _ e5) trivial B7 (noL_row _) d6
        obtain ⟨pr, g, s', d', u', epr, hpr, _, _, _, hu⟩ := row_dp d7
        cases epr
        repeat walk_at "h"
        refine ⟨⟨j + 1, some (.ref p), _, ?_, by omega, e7, ?_, Same.ext (S5.trans S6) hp4 B7⟩, ?_⟩
        · have eI : ((i + j : Nat) : Int) + 1 = ((i + (j + 1) : Nat) : Int) := by omega
          rw [← eI]
          have eb : decide (u' = V.non) = decide (j + 1 = m.2.length) := by
            refine decide_eq_decide.mpr ⟨fun z => ?_, fun z => ?_⟩
            · subst z
              by_cases hq : j + 1 < m.2.length
              · cases hu' : (m.2[j]).U with
                | none => exact absurd hu' (hU1 hq)
                | some q => rw [hu'] at hu; cases hu
              · omega
            · rw [hU2 z] at hu
              exact dp_non hu
          rw [← eb]
          rfl
        · rw [List.take_add_one, List.getElem?_eq_getElem hlt, List.map_append]
          exact dpAll_snoc (dpAll_butN (S6 _ _ e5) trivial B7 (noL_map noL_row _) (hx.same S6)) d7
        · show 1000 - (((i + j : Nat) : Int) + 1).toNat < 1000 - ((i + j : Nat) : Int).toNat
          omega
    · obtain ⟨v, e1, k, e2, q⟩ := h
      exact ⟨v, e1, k, e2, hQ _ _ q⟩
theorem sc__law_steps : FnScope ["_law_lore_here", "_law_setting", "_law_source_here", "_law_found", "_law_read_here", "_law_at", "_law_row", "_law_name", "_law_low"] ["_law_lore_here", "_law_setting", "_law_source_here"] (defScope s__law_steps) := ⟨rfl, rfl, rfl, by decide +kernel, rfl, by decide +kernel, by decide +kernel⟩
theorem ok__law_steps (T : Tx K mg) : FnAt P w K mg base CX0 6 (He.ga K "_law_steps") ["_law_lore_here", "_law_setting", "_law_source_here"] (spStepsL K) := by
  refine T.f__law_steps.f.ok sc__law_steps ?_ (fun cdv A outer s H vs Q E hr h => ?_)
  · walk_at "len"
  · obtain ⟨d, t, F, L, x, s', v, r, rfl, hL, okL, hx, hs, ho, k⟩ := h
    have ho0 := ho
    obtain ⟨av, ao, ht, hv, hoo, v0, r0, zv, zr⟩ := ho
    obtain ⟨zd, d0⟩ := drawQ_sz okL s'
    have zq : Sz 230 (readQ v r (drawQ L s')) := (readQ_sz zv zr zd r0 d0 (by decide)).mono (by decide)
    have q0 := readQ_nn v0 r0 d0
    have hrl := rowsAt_len' okL hs
    have hm3 := okL.m3
    refine ⟨_, (pss_cons (ps_par (i := 3) (j := 4) rfl sc__law_steps.nd rfl rfl (by decide) rfl rfl (pa_cons (pe_lst pa_nil) (pa_cons (pe_fn T.f__law_read (ok__law_read T) (hr.mono (by decide)) (pa_cons (pe_fn T.f__law_draw (ok__law_draw T) (hr.mono (by decide)) (pa_cons (pv 0) (pa_cons (pv 1) pa_nil))) (pa_cons (pv 2) pa_nil))) pa_nil)) rfl)
      (pss_cons (ps_for PassesOwn.never rfl (pi_enum rfl T.b_enumerate (pa_cons (pe_fn T.f__law_rows (ok__law_rows T) (hr.mono (by decide)) (pa_cons (pv 0) (pa_cons (pv 1) pa_nil))) pa_nil)) (pg_tup rfl (pgs_cons (pg_name (i := 5) sc__law_steps.nd rfl (.inl rfl)) (pgs_cons (pg_name (i := 6) sc__law_steps.nd rfl (.inl rfl)) pgs_nil))) (pss_cons (ps_par (i := 7) (j := 8) rfl sc__law_steps.nd rfl rfl (by decide) rfl rfl (pa_cons (pe_ix ix_seq (pe_ix ix_seq (pe_dget (hu_of hr) (pv 0) pe_str (fun _ _ => rfl)) (pv 5) (fun _ _ => rfl)) pe_int (fun _ _ => rfl)) (pa_cons (pe_fn T.f__law_lower (ok__law_lower T) (hr.mono (by decide)) (pa_cons (pv 0) (pa_cons (pv 6) pa_nil))) pa_nil)) rfl)
      (pss_cons (ps_if (PW.pt (pw_and (pt_cmpR op_notN (pv 8) pe_non (nomark _)) (pw_and1 (pt_val (pe_fn T.f__law_is_less (ok__law_is_less T) (hr.mono (by decide)) (pa_cons (pv 4) (pa_cons (pv 8) pa_nil))))))) (pss_one (ps_expr (pe_bm PySem.F.plainAttrs_list PySem.F.slot_list_append PySem.F.type_list_append mt_append (pv 3) (pa_cons (pe_tup (pa_cons (pe_tup (pa_cons (pv 7) (pa_cons pe_str pa_nil))) (pa_cons (pe_fn T.f__law_moved (ok__law_moved T) (hr.mono (by decide)) (pa_cons (pv 0) (pa_cons (pv 1) (pa_cons (pv 5) (pa_cons (pe_un un_neg pe_int) pa_nil))))) pa_nil))) pa_nil)))) pss_nil)
      (pss_one (ps_if (PW.pt (pw_and (pt_cmpR op_notN (pe_ix ix_seq (pv 6) pe_int (fun _ _ => rfl)) pe_non (nomark _)) (pw_and1 (pt_not (pt_val (pe_fn T.f__law_is_less (ok__law_is_less T) (hr.mono (by decide)) (pa_cons (pv 4) (pa_cons (pe_ix ix_seq (pv 6) pe_int (fun _ _ => rfl)) pa_nil)))))))) (pss_one (ps_expr (pe_bm PySem.F.plainAttrs_list PySem.F.slot_list_append PySem.F.type_list_append mt_append (pv 3) (pa_cons (pe_tup (pa_cons (pe_tup (pa_cons (pv 7) (pa_cons pe_str pa_nil))) (pa_cons (pe_fn T.f__law_moved (ok__law_moved T) (hr.mono (by decide)) (pa_cons (pv 0) (pa_cons (pv 1) (pa_cons (pv 5) (pa_cons pe_int pa_nil))))) pa_nil))) pa_nil)))) pss_nil)))))
      (pss_one (ps_ret (pv 3))))), ?_⟩
    refine My.i_go (σ' := [some _, some _, some _, none, none, none, none, none, none]) rfl ?_
    repeat walk_at "h"
    rename_i fo H1 S1 fo0 efo
    refine ⟨d, F, L, x, s', rfl, hL.same S1, okL, hx.same S1, hs, fun p2 H2 S2 hp2 => ?_⟩
    repeat walk_at "h"
    refine ⟨p2, t, v, r, _, rfl, hp2, ho0.same (S1.trans S2), zd, d0, fun p3 H3 S3 p30 e3 => ?_⟩
    repeat walk_at "h"
    try refine My.i_we ?_
    repeat walk_at "h"
    have S03 := S1.trans (S2.trans S3)
    refine ⟨d, F, L, x, s', rfl, hL.same S03, okL, hx.same S03, hs, fun rf H4 zs S4 rf0 erf hzs => ?_⟩
    have hzl : zs.length = (rowsAt L s').length := by have := dpAll_len hzs; rwa [List.length_map] at this
    have S04 := S03.trans S4
    have S14 := S2.trans (S3.trans S4)
    have efo4 := S14 _ _ efo
    have nfr : fo ≠ rf := ne_of_none ((S2.trans S3) _ _ efo) rf0
    have npf : p3 ≠ fo := (ne_of_none (S2 _ _ efo) p30).symm
    have e34 := S4 _ _ e3
    repeat walk_at "h"
    refine My.i_wev (.of erf) ?_
    refine forq_enum (xs := zs) (fun i σ' H' => ∃ (w5 w6 w7 w8 : Option V) (acc : List V), σ' = [some (.ref d), some x, some (.ref t), some (.ref fo), some (.ref p3), w5, w6, w7, w8] ∧ But fo H4 H' ∧ H' fo = some (.lst acc) ∧ Paired (StepL K H' L s') acc (((L.meters.zip (rowsAt L s')).take i).flatMap fun mr => stepsR L.spread (readQ v r (drawQ L s')) mr.1.1 mr.2) ∧ acc.length ≤ 2 * i) ⟨none, none, none, none, [], rfl, .refl _, efo4, .nil, Nat.zero_le _⟩ (fun i σ' H' _ ⟨_, _, _, _, _, _, B, _⟩ => .of (B _ _ nfr.symm erf)) ?_ ?_
    · rintro i y σ' H' T5 H5 hy ⟨w5, w6, w7, w8, acc, rfl, B, e, hP, hal⟩ S5 hT0 eT
      have hi : i < L.meters.length := by have := (List.getElem?_eq_some_iff.mp hy).1; omega
      have hi3 : i < 3 := by omega
      obtain ⟨m, hm⟩ : ∃ m, L.meters[i]? = some m := ⟨_, List.getElem?_eq_getElem hi⟩
      obtain ⟨jj, r9, hj, hn, hra⟩ := rowsAt_get okL hs hm
      have hmm := List.mem_of_getElem? hm
      obtain ⟨hne, hr4, hro⟩ := okL.rows m hmm
      obtain ⟨ah, rok⟩ := rowsAt_ok okL (List.mem_of_getElem? hra)
      obtain ⟨dy, hdy, hyd⟩ := dpAll_get (dpAll_butN efo4 trivial B (noL_map noL_row _) hzs) hy
      rw [List.getElem?_map, hra] at hdy
      cases hdy
      have hyd5 := hyd.same S5
      obtain ⟨ar, g, u, d', t2, rfl, hc, _, _, hD, hU⟩ := row_dp hyd5
      have S05 : Same H H5 := (Same.ext S04 fo0 B).trans S5
      have e5 := S5 _ _ e
      have hP5 := stepL_same hP S5
      have hL5 := hL.same S05
      have hx5 := hx.same S05
      obtain ⟨ms, ls, xs9, ys9, fd, fms, fls, ed, ems, hms, els, hls⟩ := id hL5
      obtain ⟨x9, hx9, a9, b9, rws, rfl, fb, hat, hb, hrw⟩ := paired_at hms hm
      have hp35 : SqT K H5 p3 (rat (readQ v r (drawQ L s'))) := .of (S5 _ _ (B _ _ npf e34))
      rw [steps_succ hm hra]
      generalize ((L.meters.zip (rowsAt L s')).take i).flatMap (fun mr => stepsR L.spread (readQ v r (drawQ L s')) mr.1.1 mr.2) = pre at *
      generalize readQ v r (drawQ L s') = rd at *
      repeat walk_at "h"
      refine i_ixsL (.of ems) (atI_nat (j := i) hx9) ?_
      repeat walk_at "h"
      refine ⟨d, ar, F, L, r9, ah, rfl, hL5, okL, hyd5, rok, fun vl H6 S6 hvl => ?_⟩
      walk_at "toif"
      have e6 := S6 _ _ e5
      have S06 := S05.trans S6
      refine i_ifJ (fun σ' H7 => ∃ acc', σ' = [some (.ref d), some x, some (.ref t), some (.ref fo), some (.ref p3), some (.int (i : Nat)), some (.ref ar), some (.str m.1), some vl] ∧ But fo H6 H7 ∧ H7 fo = some (.lst acc') ∧ Paired (StepL K H7 L s') acc' (pre ++ stD rd m.1 (lowR L.spread r9).D) ∧ acc'.length ≤ 2 * i + 1) (fun N hN => ?_) ?_
      · rcases opt_dp hvl with ⟨eD, rfl⟩ | ⟨qD, aD, eD, rfl, haD⟩
        · rw [eD] at hN
          repeat walk_at "h"
          rw [if_neg (by decide)]
          repeat walk_at "h"
          exact hN _ _ ⟨acc, rfl, .refl _, e6, by rw [show stD rd m.1 none = [] from rfl, List.append_nil]; exact stepL_same hP5 S6, by omega⟩
        · have zD : Sz 20 qD := by
            rw [show (lowR L.spread r9).D = r9.D.map (lowQ L.spread) from rfl] at eD
            obtain ⟨q8, hq8, rfl⟩ := Option.map_eq_some_iff.mp eD
            have hok : RatOk q8 := by
              by_cases h : ah = []
              · rw [rok.d.1 h] at hq8; cases hq8
              · obtain ⟨q2, e2, o2⟩ := rok.d.2 h
                rw [hq8] at e2; cases e2; exact o2
            exact (hok.low okL.spread).1
          have hgo : ∃ (k : Nat) (r' : My.Row), goes m.2.length jj false = some k ∧ m.2[k]? = some r' := by
            rw [show (lowR L.spread r9).D = r9.D.map (lowQ L.spread) from rfl] at eD
            obtain ⟨q8, hq8, _⟩ := Option.map_eq_some_iff.mp eD
            exact goes_down hro hj hq8
          rw [eD] at hN
          repeat walk_at "h"
          refine ⟨p3, aD, rd, qD, 230, rfl, S6.seqT hp35, haD, zq, zD.mono (by decide), by decide, ?_⟩
          refine ⟨_, rfl, ?_⟩
          by_cases c : rd < qD
          · rw [if_pos (decide_eq_true c)]
            repeat walk_at "h"
            rename_i st7 H7 S7 st70 est7
            refine ⟨d, F, L, x, s', i, jj, m, r9, false, rfl, hL.same (S06.trans S7), okL, hx.same (S06.trans S7), hs, hm, hj, hn, fun hno => (by obtain ⟨_, _, hg, _⟩ := hgo; rw [hg] at hno; cases hno), fun k8 r8 hk8 hr8 vb H8 S8 hvb => ?_⟩
            rw [← behS_eq okL hm hj hn hk8 hr8] at hvb
            repeat walk_at "h"
            rename_i t9 H9 S9 t90 et9
            have S69 := S7.trans (S8.trans S9)
            have e9 := S69 _ _ e6
            refine i_app e9 (Nat.lt_of_lt_of_le (show acc.length < 100 by omega) (by decide)) fun H10 B10 e10 => ?_
            refine hN _ _ ⟨_, rfl, S69.but.trans B10, e10, ?_, by rw [List.length_append, List.length_singleton]; omega⟩
            rw [show stD rd m.1 (some qD) = [(m.1, false)] from if_pos c]
            refine paired_snoc (stepL_but (stepL_same (stepL_same hP5 S6) S69) e9 B10) ?_
            refine ⟨t9, .ref st7, vb, rfl, seqT_butP e9 trivial B10 (.of et9), dp_butN e9 trivial B10 (noL_step _) (.tup (.of (S9 _ _ (S8 _ _ est7))) (.cons (.str _) (.cons (.str _) .nil))), dp_butN e9 trivial B10 (noL_setting _) (hvb.same S9)⟩
          · rw [if_neg (show ¬ (decide (rd < qD) = true) from fun z => c (of_decide_eq_true z))]
            repeat walk_at "h"
            exact hN _ _ ⟨acc, rfl, .refl _, e6, by rw [show stD rd m.1 (some qD) = [] from if_neg c, List.append_nil]; exact stepL_same hP5 S6, by omega⟩
      · rintro σ' H7 ⟨acc', rfl, B7, e7, hP7, hal7⟩
        have hc7 := seqT_but e6 B7 (S6.seqT hc)
        have hU7 := dp_butN e6 trivial B7 (noL_opt _) (hU.same S6)
        have S07 : Same H H7 := Same.ext S06 fo0 B7
        have hp37 := seqT_but e6 B7 (S6.seqT hp35)
        rcases opt_dp hU7 with ⟨eU, rfl⟩ | ⟨qU, aU, eU, rfl, haU⟩
        · rw [eU]
          repeat walk_at "h"
          rw [if_neg (by decide)]
          repeat walk_at "h"
          exact ⟨_, _, _, _, acc', rfl, ((B.trans S5.but).trans S6.but).trans B7, e7, by rw [show stU rd m.1 none = [] from rfl, List.append_nil]; exact hP7, by omega⟩
        · have hgo := goes_up hro hj eU
          have zU := (rok.u qU eU).1.sz14
          rw [eU]
          repeat walk_at "h"
          refine ⟨p3, aU, rd, qU, 230, rfl, hp37, haU, zq, zU.mono (by decide), by decide, ?_⟩
          repeat walk_at "h"
          by_cases c : rd < qU
          · rw [if_neg (show ¬ ((!decide (rd < qU)) = true) by rw [decide_eq_true c]; decide)]
            repeat walk_at "h"
            exact ⟨_, _, _, _, acc', rfl, ((B.trans S5.but).trans S6.but).trans B7, e7, by rw [show stU rd m.1 (some qU) = [] from if_neg (by grind), List.append_nil]; exact hP7, by omega⟩
          · rw [if_pos (show (!decide (rd < qU)) = true by rw [decide_eq_false c]; decide)]
            repeat walk_at "h"
            rename_i st8 H8 S8 st80 est8
            refine ⟨d, F, L, x, s', i, jj, m, r9, true, rfl, hL.same (S07.trans S8), okL, hx.same (S07.trans S8), hs, hm, hj, hn, fun hno => (by obtain ⟨_, _, hg, _⟩ := hgo; rw [hg] at hno; cases hno), fun k8 r8 hk8 hr8 vb H9 S9 hvb => ?_⟩
            rw [← behS_eq okL hm hj hn hk8 hr8] at hvb
            repeat walk_at "h"
            rename_i t10 H10 S10 t100 et10
            have S710 := S8.trans (S9.trans S10)
            have e10 := S710 _ _ e7
            refine i_app e10 (Nat.lt_of_lt_of_le (show acc'.length < 100 by omega) (by decide)) fun H11 B11 e11 => ?_
            refine ⟨_, _, _, _, _, rfl, ((((B.trans S5.but).trans S6.but).trans B7).trans S710.but).trans B11, e11, ?_, by rw [List.length_append, List.length_singleton]; omega⟩
            rw [show stU rd m.1 (some qU) = [(m.1, true)] from if_pos (by grind)]
            refine paired_snoc (stepL_but (stepL_same hP7 S710) e10 B11) ?_
            exact ⟨t10, .ref st8, vb, rfl, seqT_butP e10 trivial B11 (.of et10), dp_butN e10 trivial B11 (noL_step _) (.tup (.of (S10 _ _ (S9 _ _ est8))) (.cons (.str _) (.cons (.str _) .nil))), dp_butN e10 trivial B11 (noL_setting _) (hvb.same S10)⟩
    · rintro σ' H' ⟨w5, w6, w7, w8, acc, rfl, B, e, hP, hal⟩
      rw [List.take_of_length_le (by rw [List.length_zip]; omega)] at hP
      repeat walk_at "h"
      exact k fo H' acc (Same.ext S04 fo0 B) fo0 e hP
theorem sc__law_drawn : FnScope ["_law_pot_here", "_law_way", "_law_shape_here", "_law_many"] ["_law_pot_here", "_law_way"] (defScope s__law_drawn) := ⟨rfl, rfl, rfl, by decide +kernel, rfl, by decide +kernel, by decide +kernel⟩
theorem ok__law_drawn (T : Tx K mg) : FnAt P w K mg base CX0 6 (He.ga K "_law_drawn") ["_law_pot_here", "_law_way"] (spDrawn K) := by
  refine T.f__law_drawn.f.ok sc__law_drawn ?_ (fun cdv A outer s H vs Q E hr h => ?_)
  · walk_at "len"
  · obtain ⟨p, w', n, rfl, hP, hn, k⟩ := h
    refine ⟨_, (pss_cons (ps_asg (pe_fn T.f__law_shape (ok__law_shape T) (hr.mono (by decide)) (pa_cons (pv 0) pa_nil)) (pg_tup rfl (pgs_cons (pg_name (i := 2) sc__law_drawn.nd rfl (.inl rfl)) (pgs_cons (pg_name (i := 3) sc__law_drawn.nd rfl (.inl rfl)) pgs_nil))))
      (pss_one (ps_ret (pe_fn T.f__law_lore (ok__law_lore T) (hr.mono (by decide)) (pa_cons (pv 0) (pa_cons (pv 2) (pa_cons (pv 1) (pa_cons (pv 3) pa_nil)))))))), ?_⟩
    refine My.i_go (σ' := [some _, some _, none, none]) rfl ?_
    repeat walk_at "h"
    refine ⟨p, n, rfl, hP, by omega, fun t s' H1 ns l B1 P1 s0 et es h1 h3 hk hl hp => ?_⟩
    repeat walk_at "h"
    refine ⟨p, s', ns, w', n + 1, l, rfl, P1, by omega, es, h1, h3, hk, hl, (hP.ne s0).symm, fun d H3 L B3 P3 hL ok hm hl => ?_⟩
    refine k d H3 L (B1.trans B3) (P3.mono (by omega)) (hL.imp fun a h => B1.free (fun z => by rw [z] at h; obtain ⟨_, e⟩ := P1.some; rw [e] at h; cases h) h) ok ?_
    rw [raw_len, hm, hl]
    exact hp
theorem sc__law_any_source : FnScope ["_law_pot_here", "_law_lore_here"] ["_law_pot_here", "_law_lore_here"] (defScope s__law_any_source) := ⟨rfl, rfl, rfl, by decide +kernel, rfl, by decide +kernel, by decide +kernel⟩
theorem ok__law_any_source (T : Tx K mg) : FnAt P w K mg base CX0 6 (He.ga K "_law_any_source") ["_law_pot_here", "_law_lore_here"] (spAnyDraw K) := by
  refine T.f__law_any_source.f.ok sc__law_any_source ?_ (fun cdv A outer s H vs Q E hr h => ?_)
  · walk_at "len"
  · obtain ⟨p, d, n, F, L, rfl, hP, hn, hL, hFp, okL, h16, k⟩ := h
    obtain ⟨l1, ep1⟩ := hP.some
    refine ⟨_, (pss_one (ps_ret (pe_ifExp (pt_cmpR op_gt (pe_fn T.f__law_take (ok__law_take T) (hr.mono (by decide)) (pa_cons (pv 0) (pa_cons pe_int pa_nil))) pe_int (nomark _)) (pe_fn T.f__law_near_source (ok__law_near_source T) (hr.mono (by decide)) (pa_cons (pv 0) (pa_cons (pv 1) pa_nil))) (pe_fn T.f__law_source (ok__law_source T) (hr.mono (by decide)) (pa_cons (pv 0) pa_nil))))), ?_⟩
    refine My.i_go (σ' := [some _, some _]) rfl ?_
    repeat walk_at "h"
    refine ⟨p, 3, n, rfl, hP, by omega, by decide, by decide, fun r1 H1 r10 r11 P1 B1 => ?_⟩
    repeat walk_at "h"
    refine ite2 (fun c => ?_) (fun c => ?_)
    · repeat walk_at "h"
      refine ⟨p, d, n + 1, F, L, rfl, P1, by omega, hL.but ep1 hFp B1, hFp, okL, h16, fun t H2 v r B2 P2 ho => ?_⟩
      exact k t H2 v r (B1.trans B2) (P2.mono (by omega)) ho
    · repeat walk_at "h"
      refine ⟨p, n + 1, rfl, P1, by omega, fun t H2 v r B2 P2 ho => ?_⟩
      exact k t H2 v r (B1.trans B2) (P2.mono (by omega)) ho
theorem ok_ascending_5 (T : Tx K mg) : FnAt P w K mg base CX0 7 (He.ga K "ascending") ["rows"] (spAsc K 5) := by
  refine T.f_ascending.f.ok sc_ascending ?_ (fun cdv A outer s H vs Q E hr h => ?_)
  · walk_at "len"
  · obtain ⟨a, xs, ds, rfl, hl, hx, nd, hF, h1, h2, k⟩ := h
    have hxl := dpAll_len hx
    refine ⟨_, (pss_cons (ps_if (pt_cmpR op_lt (pe_callB cr_len rfl T.b_len (by decide +kernel) (pa_cons (pv 0) pa_nil)) pe_int (nomark _)) (pss_one (ps_ret (pe_callTy cr_tupN rfl T.b_tuple (by decide +kernel) (pa_cons (pv 0) pa_nil)))) pss_nil)
      (pss_cons (ps_set (i := 1) sc_ascending.nd rfl (.inl rfl) (pe_op op_fdivW (pe_callB cr_len rfl T.b_len (by decide +kernel) (pa_cons (pv 0) pa_nil)) pe_int))
      (pss_one (ps_ret (pe_fn T.f_merged (ok_merged T) (hr.mono (by decide)) (pa_cons (pe_fn T.f_ascending (ok_ascending_4 T) (hr.mono (by decide)) (pa_cons (pe_slice sl_list (pv 0) po_none (po_some (pv 1))) pa_nil)) (pa_cons (pe_fn T.f_ascending (ok_ascending_4 T) (hr.mono (by decide)) (pa_cons (pe_slice sl_list (pv 0) (po_some (pv 1)) po_none) pa_nil)) pa_nil))))))), ?_⟩
    refine My.i_go (σ' := [some _, none]) rfl ?_
    repeat walk_at "h"
    refine i_lenL hl ?_
    repeat walk_at "h"
    refine ite2 (fun hs => ?_) (fun hs => ?_)
    · have hs := of_decide_eq_true hs
      repeat walk_at "h"
      refine i_tupN hl fun p H1 S1 hp e1 => k p H1 S1 ?_
      rw [srt_few (by omega)]
      exact .tup (.of e1) (hx.same S1)
    have hs : ¬ ((xs.length : Int) < 2) := fun z => hs (decide_eq_true z)
    have hs2 : ¬ ds.length < 2 := by omega
    rw [srt_step hs2] at k
    have hp2 := pow2 4
    repeat walk_at "h"
    refine i_lenL hl ?_
    repeat walk_at "h"
    have eh : (xs.length : Int) / 2 = ((ds.length / 2 : Nat) : Int) := by omega
    rw [eh]
    refine i_slL hl fun p1 H1 S1 hp1 e1 => ?_
    rw [cut_to (by omega)] at e1
    repeat walk_at "h"
    refine ⟨p1, _, ds.take (ds.length / 2), rfl, .of e1, dpAll_take _ (hx.same S1), (noLAll_iff _).mpr fun d hd => (noLAll_iff ds).mp nd d (List.mem_of_mem_take hd), hF.sub fun d hd => List.mem_of_mem_take hd, by rw [List.length_take]; omega, by rw [List.length_take]; omega, fun q2 H2 S2 d2 => ?_⟩
    repeat walk_at "h"
    refine i_slL (S2.seq (S1.seq hl)) fun p3 H3 S3 hp3 e3 => ?_
    rw [cut_from (by omega)] at e3
    repeat walk_at "h"
    refine ⟨p3, _, ds.drop (ds.length / 2), rfl, .of e3, dpAll_drop _ (hx.same ((S1.trans S2).trans S3)), (noLAll_iff _).mpr fun d hd => (noLAll_iff ds).mp nd d (List.mem_of_mem_drop hd), hF.sub fun d hd => List.mem_of_mem_drop hd, by rw [List.length_drop]; omega, by rw [List.length_drop]; omega, fun q4 H4 S4 d4 => ?_⟩
    repeat walk_at "h"
    have m2 : ∀ d ∈ srt 4 (ds.take (ds.length / 2)), d ∈ ds := fun d hd => List.mem_of_mem_take (srt_mem _ _ d hd)
    have m4 : ∀ d ∈ srt 4 (ds.drop (ds.length / 2)), d ∈ ds := fun d hd => List.mem_of_mem_drop (srt_mem _ _ d hd)
    refine ⟨q2, q4, _, _, rfl, (d2.same S3).same S4, d4, (noLAll_iff _).mpr fun d hd => (noLAll_iff ds).mp nd d (m2 d hd), (noLAll_iff _).mpr fun d hd => (noLAll_iff ds).mp nd d (m4 d hd), hF.sub fun d hd => ?_, by rw [srt_len, srt_len, List.length_take, List.length_drop]; omega, fun q5 H5 S5 d5 => k q5 H5 ((((S1.trans S2).trans S3).trans S4).trans S5) d5⟩
    rcases List.mem_append.mp hd with hd | hd
    · exact m2 d hd
    · exact m4 d hd
theorem sc_possible : FnScope ["bench", "setting", "source", "found", "step", "behind", "line", "is_up"] ["bench", "setting", "source"] (defScope s_possible) := ⟨rfl, rfl, rfl, by decide +kernel, rfl, by decide +kernel, by decide +kernel⟩
theorem ok_possible (T : Tx K mg) : FnAt P w K mg base CX0 7 (He.ga K "possible") ["bench", "setting", "source"] (spPossible K (He.ga K "Bench") (He.ga K "Source")) := by
  refine T.f_possible.f.ok sc_possible ?_ (fun cdv A outer s H vs Q E hr h => ?_)
  · walk_at "len"
  · obtain ⟨b, so, L, x, s', v, r, rfl, hB, okL, hx, hs, hS, zv, zr, k⟩ := h
    have hr0 : 0 ≤ v ∧ 0 ≤ r := by obtain ⟨_, _, _, _, _, _, h1, h2⟩ := hS; exact ⟨h1, h2⟩
    obtain ⟨zd, d0⟩ := drawQ_sz okL s'
    have q0 := readQ_nn hr0.1 hr0.2 d0
    have hmv := moves_hit' okL (s := s') q0
    have hnd : ((movesOf L s').map mvS).Nodup := moves_nd okL s'
    have hlen := moves_len okL s'
    refine ⟨_, (pss_cons (ps_set (i := 3) sc_possible.nd rfl (.inl rfl) pe_dnewT)
      (pss_cons (ps_for PassesOwn.never rfl (pi_list (pe_fn T.f_moves_at (ok_moves_at T) (hr.mono (by decide)) (pa_cons (pv 0) (pa_cons (pv 1) pa_nil)))) (pg_tup rfl (pgs_cons (pg_name (i := 4) sc_possible.nd rfl (.inl rfl)) (pgs_cons (pg_name (i := 5) sc_possible.nd rfl (.inl rfl)) (pgs_cons (pg_name (i := 6) sc_possible.nd rfl (.inl rfl)) (pgs_cons (pg_name (i := 7) sc_possible.nd rfl (.inl rfl)) pgs_nil))))) (pss_one (ps_if (pt_cmpR op_eq (pe_fn T.f_reaches (ok_reaches T) (hr.mono (by decide)) (pa_cons (pv 2) (pa_cons (pv 6) pa_nil))) (pv 7) (nomark _)) (pss_one (ps_dput (hu_of hr) (pv 3) (pv 4) (pv 5) rfl)) pss_nil)))
      (pss_one (ps_ret (pv 3))))), ?_⟩
    refine My.i_go (σ' := [some _, some _, some _, none, none, none, none, none]) rfl ?_
    repeat walk_at "h"
    refine i_dnewT fun fd H1 S1 fd0 efd => ?_
    repeat walk_at "h"
    refine ⟨b, L, x, s', rfl, hB.same S1, okL, hx.same S1, hs, fun mr H2 xs S2 mr0 emr hM => ?_⟩
    have efd2 := S2 _ _ efd
    have nfm : fd ≠ mr := ne_of_none efd mr0
    have hS2 := hS.same (S1.trans S2)
    have hxl : xs.length = (movesOf L s').length := Paired.length hM
    repeat walk_at "h"
    refine forq_list (xs := xs) (fun i σ' H' => ∃ (w4 w5 w6 w7 : Option V) (kvs : List (List Key × V)), σ' = [some (.ref b), some x, some (.ref so), some (.ref fd), w4, w5, w6, w7] ∧ But fd H2 H' ∧ H' fd = some (.dT kvs) ∧ Paired (StepV K H' L s') kvs ((((movesOf L s').take i).filter (hits (readQ v r (drawQ L s')))).map mvS)) ⟨none, none, none, none, [], rfl, .refl _, efd2, .nil⟩ (fun i σ' H' _ ⟨_, _, _, _, _, _, B, _⟩ => .of (B _ _ nfm.symm emr)) ?_ ?_
    · rintro i y σ' H' hy ⟨w4, w5, w6, w7, kvs, rfl, B, e, hP⟩
      obtain ⟨mv, hmv2, hMA⟩ := L2.paired_get (hM.but efd2 B) hy
      obtain ⟨t, st, vb, ln, a, b9, rfl, ht, hst, hvb, hln, ha, hb⟩ := hMA
      have zm := moves_sz okL (List.mem_of_getElem? hmv2)
      have hS3 := srcAt_butP hS2 efd2 B
      have step := hit_succ (q := readQ v r (drawQ L s')) hmv2
      have hfr := fresh_key hP hnd hmv2
      have hkl : kvs.length ≤ 6 := by
        have := Paired.length hP
        rw [List.length_map] at this
        have h2 := List.length_filter_le (hits (readQ v r (drawQ L s'))) ((movesOf L s').take i)
        rw [List.length_take] at h2
        omega
      repeat walk_at "h"
      refine ⟨so, ln, a, b9, v, r, mv.2.2, _, rfl, hS3, hln, ha, hb, zv, zr, zm, (zm.mul2 zd).mono (by decide), fun H4 S4 => ?_⟩
      rw [show decide (mv.2.2 + mv.2.2 * drawQ L s' * r ≤ v) = decide (mv.2.2 ≤ readQ v r (drawQ L s')) from decide_eq_decide.mpr (reach_iff hr0.2 d0)]
      repeat walk_at "h"
      refine ⟨rfl, ?_⟩
      have hh : decide (V.bl (decide (mv.2.2 ≤ readQ v r (drawQ L s'))) = V.bl mv.2.1) = hits (readQ v r (drawQ L s')) mv := by
        unfold hits
        cases decide (mv.2.2 ≤ readQ v r (drawQ L s')) <;> cases mv.2.1 <;> decide
      rw [hh]
      refine ⟨_, rfl, ?_⟩
      have e4 := S4 _ _ e
      have est4 := S4 _ _ hst
      cases c : hits (readQ v r (drawQ L s')) mv with
      | true =>
        rw [c, if_pos rfl] at step
        repeat walk_at "h"
        refine ⟨fd, _, rfl, DPut.t (k := stepK (mvS mv)) (v := vb) e4 est4 (Nat.lt_of_le_of_lt hkl (by decide)), ?_⟩
        rw [putK_new _ hfr]
        repeat walk_at "h"
        have B5 : But fd H4 (upd H4 fd (.dT (kvs ++ [(stepK (mvS mv), vb)]))) := .upd
        refine ⟨_, _, _, _, _, rfl, (B.trans S4.but).trans B5, upd_same, ?_⟩
        rw [step]
        refine paired_snoc (stepV_but (stepV_same hP S4) e4 B5) ⟨rfl, ?_⟩
        exact dp_butN e4 trivial B5 (noL_setting _) (hvb.same S4)
      | false =>
        rw [c, if_neg (by decide), List.append_nil] at step
        repeat walk_at "h"
        exact ⟨_, _, _, _, kvs, rfl, B.trans S4.but, e4, by rw [step]; exact stepV_same hP S4⟩
    · rintro σ' H' ⟨w4, w5, w6, w7, kvs, rfl, B, e, hP⟩
      rw [hxl, List.take_length, hmv] at hP
      repeat walk_at "h"
      exact k fd H' kvs (Same.ext (S1.trans S2) fd0 B) fd0 e hP
theorem sc_read_meters : FnScope ["lines", "at", "meters", "name", "ranges"] ["lines", "at"] (defScope s_read_meters) := ⟨rfl, rfl, rfl, by decide +kernel, rfl, by decide +kernel, by decide +kernel⟩
theorem ok_read_meters (T : Tx K mg) : FnAt P w K mg base CX0 7 (He.ga K "read_meters") ["lines", "at"] (spReadMeters K) := by
  refine T.f_read_meters.f.ok sc_read_meters ?_ (fun cdv A outer s H vs Q E hr h => ?_)
  · walk_at "len"
  · obtain ⟨a, i, ls, ms, lds, rfl, hl, hlz, hd, hm1, hm3, hms, hnd, hln, k⟩ := h
    refine ⟨_, (pss_cons (ps_set (i := 2) sc_read_meters.nd rfl (.inl rfl) pe_dnewK)
      (pss_cons (ps_while PassesOwn.never (PW.pt (pw_or (pt_not (pt_truth (pv 2) (by intro _; rfl))) (pw_or1 (PW.pt (pw_and (pt_cmpR op_lt (pe_callB cr_lenDN rfl T.b_len (by decide +kernel) (pa_cons (pv 2) pa_nil)) (pe_globI rfl T.m_MOST_METERS) (nomark _)) (pw_and1 (pt_val (pe_bm PySem.F.plainAttrs_str PySem.F.slot_str_startswith PySem.F.type_str_startswith mt_startswith (pe_fn T.f_line_at (ok_line_at T) (hr.mono (by decide)) (pa_cons (pv 0) (pa_cons (pv 1) pa_nil))) (pa_cons pe_str pa_nil))))))))) (pss_cons (ps_asg (pe_fn T.f_read_meter (ok_read_meter T) (hr.mono (by decide)) (pa_cons (pv 0) (pa_cons (pv 1) (pa_cons (pv 2) pa_nil)))) (pg_tup rfl (pgs_cons (pg_name (i := 3) sc_read_meters.nd rfl (.inl rfl)) (pgs_cons (pg_name (i := 4) sc_read_meters.nd rfl (.inl rfl)) (pgs_cons (pg_name (i := 1) sc_read_meters.nd rfl (.inl rfl)) pgs_nil)))))
      (pss_one (ps_dput (hu_of hr) (pv 2) (pv 3) (pv 4) rfl))))
      (pss_one (ps_ret (pe_tup (pa_cons (pv 2) (pa_cons (pv 1) pa_nil))))))), ?_⟩
    refine My.i_go (σ' := [some _, some _, none, none, none]) rfl ?_
    repeat walk_at "h"
    refine i_dnewK fun p0 H1 S1 hp0 e1 => ?_
    repeat walk_at "h"
    refine while_q (fun σ' H' => ∃ (j : Nat) (w1 w2 : Option V) (kvs : List (Key × V)), σ' = [some (.ref a), some (.int ((i + ((ms.take j).flatMap meterLines).length : Nat) : Int)), some (.ref p0), w1, w2] ∧ j ≤ ms.length ∧ H' p0 = some (.dK kvs) ∧ KP (RawR K H') kvs (ms.take j) ∧ Same H H') (fun _ H' => match H' p0 with | some (.dK kvs) => 10 - kvs.length | _ => 0) ⟨0, none, none, [], rfl, Nat.zero_le _, e1, .nil, S1⟩ ?_
    rintro σ' H' ⟨j, w1, w2, kvs, rfl, hj, e2, hk, S2⟩ QB hT hF
    have hkl : kvs.length = j := by rw [hk.len, List.length_take]; omega
    have go : j < ms.length → QB true H' := fun hlt => by
      refine hT H' ?_
      have hm := hms ms[j] (List.getElem_mem hlt)
      have hfl := flat_at (f := meterLines) hlt
      rw [hfl, List.append_assoc, List.append_assoc] at hd
      have hdj := drop_at hd rfl
      have hget : ms[j]? = some ms[j] := List.getElem?_eq_getElem hlt
      repeat walk_at "h"
      refine ⟨a, p0, i + ((ms.take j).flatMap meterLines).length, ls, _, kvs, ms[j], rfl, S2.seq hl, hlz, hdj, e2, hk.no (nd_takeN hnd hget), hm, fun p b H3 xs S3 hp hb ep eb hx => ?_⟩
      repeat walk_at "h"
      refine i_dpS (S3 _ _ e2) (by rw [hkl]; exact Nat.lt_of_lt_of_le (show j < 3 by omega) (by decide)) fun H4 B4 e4 => ?_
      have hbp : b ≠ p0 := fun z => by rw [z, e2] at hb; cases hb
      refine ⟨⟨j + 1, some (.str ms[j].1), some (.ref b), _, ?_, hlt, e4, ?_, Same.ext (S2.trans S3) hp0 B4⟩, ?_⟩
      · have eI : ((i + ((ms.take j).flatMap meterLines).length + 1 + ms[j].2.length : Nat) : Int) = ((i + ((ms.take (j + 1)).flatMap meterLines).length : Nat) : Int) := by
          rw [List.take_add_one, hget, List.flatMap_append, List.length_append]
          have : ((some ms[j]).toList.flatMap meterLines) = meterLines ms[j] := by simp
          rw [this, meterLines_len]
          omega
        rw [← eI]
        rfl
      · rw [List.take_add_one, hget]
        exact KP.put (hk.imp fun v r hv => (hv.same S3).butK (S3 _ _ e2) B4) (nd_takeN hnd hget) ⟨b, xs, rfl, B4 _ _ hbp eb, dpAll_butN (S3 _ _ e2) trivial B4 (noL_map noL_row _) hx⟩
      · rw [e4, e2]
        have hno := hk.no (nd_takeN hnd hget)
        show 10 - (putK kvs (.inr ms[j].1) (.ref b)).length < 10 - kvs.length
        rw [putK_new _ hno, List.length_append]
        simp only [List.length_cons, List.length_nil]
        omega
    have stop : j = ms.length → QB false H' := fun hjl => by
      refine hF H' ?_
      rw [hjl, List.take_length] at hk ⊢
      repeat walk_at "h"
      rename_i pz H6 S6 hpz ez
      exact k pz p0 H6 kvs (S2.trans S6) (S2.free hpz) hp0 ez (S6 _ _ e2) (hk.imp fun v r hv => hv.same S6)
    repeat walk_at "h"
    refine ⟨_, tru_dict e2, ?_⟩
    cases kvs with
    | nil =>
      have hj0 : j = 0 := by simpa using hkl.symm
      subst hj0
      exact go hm1
    | cons kv0 kvr =>
      refine L2.iteF ?_
      repeat walk_at "h"
      refine i_lenD e2 ?_
      rw [hkl]
      repeat walk_at "h"
      refine ite2 (fun h3 => ?_) (fun h3 => ?_)
      · have h3 := of_decide_eq_true h3
        repeat walk_at "h"
        refine ⟨a, i + ((ms.take j).flatMap meterLines).length, ls, rfl, S2.seq hl, ?_⟩
        by_cases hlt : j < ms.length
        · have hd2 := hd
          rw [flat_at (f := meterLines) hlt, List.append_assoc, List.append_assoc] at hd2
          have hdj := drop_get (j := 0) (drop_at hd2 rfl)
          rw [Nat.add_zero] at hdj
          rw [getD_of (hdj.trans (show _ = some (meterLine ms[j].1) from rfl))]
          repeat walk_at "h"
          rw [starts_meter]
          repeat walk_at "h"
          exact go hlt
        · have hje : j = ms.length := by omega
          have hdj := drop_get (j := 0) (drop_at hd rfl)
          rw [Nat.add_zero] at hdj
          rw [hje, List.take_length, List.getD_eq_getElem?_getD, hdj]
          cases lds with
          | nil =>
            repeat walk_at "h"
            rw [show Txt.startswith ((([] : List (Str × Rat)).map loadLine)[0]?.getD "") "meter" = false from starts_empty]
            repeat walk_at "h"
            exact stop hje
          | cons l lr =>
            repeat walk_at "h"
            rw [show Txt.startswith (((l :: lr).map loadLine)[0]?.getD "") "meter" = false from starts_load l]
            repeat walk_at "h"
            exact stop hje
      · have h3 : ¬ ((j : Int) < 3) := fun z => h3 (decide_eq_true z)
        repeat walk_at "h"
        exact stop (by omega)
theorem ok_ascending_6 (T : Tx K mg) : FnAt P w K mg base CX0 8 (He.ga K "ascending") ["rows"] (spAsc K 6) := by
  refine T.f_ascending.f.ok sc_ascending ?_ (fun cdv A outer s H vs Q E hr h => ?_)
  · walk_at "len"
  · obtain ⟨a, xs, ds, rfl, hl, hx, nd, hF, h1, h2, k⟩ := h
    have hxl := dpAll_len hx
    refine ⟨_, (pss_cons (ps_if (pt_cmpR op_lt (pe_callB cr_len rfl T.b_len (by decide +kernel) (pa_cons (pv 0) pa_nil)) pe_int (nomark _)) (pss_one (ps_ret (pe_callTy cr_tupN rfl T.b_tuple (by decide +kernel) (pa_cons (pv 0) pa_nil)))) pss_nil)
      (pss_cons (ps_set (i := 1) sc_ascending.nd rfl (.inl rfl) (pe_op op_fdivW (pe_callB cr_len rfl T.b_len (by decide +kernel) (pa_cons (pv 0) pa_nil)) pe_int))
      (pss_one (ps_ret (pe_fn T.f_merged (ok_merged T) (hr.mono (by decide)) (pa_cons (pe_fn T.f_ascending (ok_ascending_5 T) (hr.mono (by decide)) (pa_cons (pe_slice sl_list (pv 0) po_none (po_some (pv 1))) pa_nil)) (pa_cons (pe_fn T.f_ascending (ok_ascending_5 T) (hr.mono (by decide)) (pa_cons (pe_slice sl_list (pv 0) (po_some (pv 1)) po_none) pa_nil)) pa_nil))))))), ?_⟩
    refine My.i_go (σ' := [some _, none]) rfl ?_
    repeat walk_at "h"
    refine i_lenL hl ?_
    repeat walk_at "h"
    refine ite2 (fun hs => ?_) (fun hs => ?_)
    · have hs := of_decide_eq_true hs
      repeat walk_at "h"
      refine i_tupN hl fun p H1 S1 hp e1 => k p H1 S1 ?_
      rw [srt_few (by omega)]
      exact .tup (.of e1) (hx.same S1)
    have hs : ¬ ((xs.length : Int) < 2) := fun z => hs (decide_eq_true z)
    have hs2 : ¬ ds.length < 2 := by omega
    rw [srt_step hs2] at k
    have hp2 := pow2 5
    repeat walk_at "h"
    refine i_lenL hl ?_
    repeat walk_at "h"
    have eh : (xs.length : Int) / 2 = ((ds.length / 2 : Nat) : Int) := by omega
    rw [eh]
    refine i_slL hl fun p1 H1 S1 hp1 e1 => ?_
    rw [cut_to (by omega)] at e1
    repeat walk_at "h"
    refine ⟨p1, _, ds.take (ds.length / 2), rfl, .of e1, dpAll_take _ (hx.same S1), (noLAll_iff _).mpr fun d hd => (noLAll_iff ds).mp nd d (List.mem_of_mem_take hd), hF.sub fun d hd => List.mem_of_mem_take hd, by rw [List.length_take]; omega, by rw [List.length_take]; omega, fun q2 H2 S2 d2 => ?_⟩
    repeat walk_at "h"
    refine i_slL (S2.seq (S1.seq hl)) fun p3 H3 S3 hp3 e3 => ?_
    rw [cut_from (by omega)] at e3
    repeat walk_at "h"
    refine ⟨p3, _, ds.drop (ds.length / 2), rfl, .of e3, dpAll_drop _ (hx.same ((S1.trans S2).trans S3)), (noLAll_iff _).mpr fun d hd => (noLAll_iff ds).mp nd d (List.mem_of_mem_drop hd), hF.sub fun d hd => List.mem_of_mem_drop hd, by rw [List.length_drop]; omega, by rw [List.length_drop]; omega, fun q4 H4 S4 d4 => ?_⟩
    repeat walk_at "h"
    have m2 : ∀ d ∈ srt 5 (ds.take (ds.length / 2)), d ∈ ds := fun d hd => List.mem_of_mem_take (srt_mem _ _ d hd)
    have m4 : ∀ d ∈ srt 5 (ds.drop (ds.length / 2)), d ∈ ds := fun d hd => List.mem_of_mem_drop (srt_mem _ _ d hd)
    refine ⟨q2, q4, _, _, rfl, (d2.same S3).same S4, d4, (noLAll_iff _).mpr fun d hd => (noLAll_iff ds).mp nd d (m2 d hd), (noLAll_iff _).mpr fun d hd => (noLAll_iff ds).mp nd d (m4 d hd), hF.sub fun d hd => ?_, by rw [srt_len, srt_len, List.length_take, List.length_drop]; omega, fun q5 H5 S5 d5 => k q5 H5 ((((S1.trans S2).trans S3).trans S4).trans S5) d5⟩
    rcases List.mem_append.mp hd with hd | hd
    · exact m2 d hd
    · exact m4 d hd
theorem sc_steps : FnScope ["bench", "setting", "source"] ["bench", "setting", "source"] (defScope s_steps) := ⟨rfl, rfl, rfl, by decide +kernel, rfl, by decide +kernel, by decide +kernel⟩
theorem ok_steps (T : Tx K mg) : FnAt P w K mg base CX0 8 (He.ga K "steps") ["bench", "setting", "source"] (spSteps K (He.ga K "Bench") (He.ga K "Source")) := by
  refine T.f_steps.f.ok sc_steps ?_ (fun cdv A outer s H vs Q E hr h => ?_)
  · walk_at "len"
  · obtain ⟨b, so, L, x, s', v, r, rfl, hB, okL, hx, hs, hS, zv, zr, k⟩ := h
    refine ⟨_, (pss_cons (ps_expr (pe_fn T.f_need_setting (ok_need_setting T) (hr.mono (by decide)) (pa_cons (pv 0) (pa_cons (pv 1) pa_nil))))
      (pss_one (ps_ret (pe_callTy (cr_tupDT rfl) rfl T.b_tuple (by decide +kernel) (pa_cons (pe_fn T.f_possible (ok_possible T) (hr.mono (by decide)) (pa_cons (pv 0) (pa_cons (pv 1) (pa_cons (pv 2) pa_nil)))) pa_nil))))), ?_⟩
    refine My.i_go (σ' := [some _, some _, some _]) rfl ?_
    repeat walk_at "h"
    refine ⟨b, L, x, s', rfl, hB, okL, hx, hs, ?_⟩
    repeat walk_at "h"
    refine ⟨b, so, L, x, s', v, r, rfl, hB, okL, hx, hs, hS, zv, zr, fun d H1 kvs S1 d0 ed hP => ?_⟩
    repeat walk_at "h"
    refine ⟨d, kvs, rfl, .inl ed, fun p bs hp hK => ?_⟩
    repeat walk_at "h"
    have S2 : Same H1 (upd H1 p (.tup (bs.map V.ref))) := fun c o e => by rw [upd_ne (ne_of_none e hp)]; exact e
    refine k p _ (S1.trans S2) (S1.free hp) (.tup (.of upd_same) ?_)
    exact keys_steps hP hK S2
theorem ok_ascending_7 (T : Tx K mg) : FnAt P w K mg base CX0 9 (He.ga K "ascending") ["rows"] (spAsc K 7) := by
  refine T.f_ascending.f.ok sc_ascending ?_ (fun cdv A outer s H vs Q E hr h => ?_)
  · walk_at "len"
  · obtain ⟨a, xs, ds, rfl, hl, hx, nd, hF, h1, h2, k⟩ := h
    have hxl := dpAll_len hx
    refine ⟨_, (pss_cons (ps_if (pt_cmpR op_lt (pe_callB cr_len rfl T.b_len (by decide +kernel) (pa_cons (pv 0) pa_nil)) pe_int (nomark _)) (pss_one (ps_ret (pe_callTy cr_tupN rfl T.b_tuple (by decide +kernel) (pa_cons (pv 0) pa_nil)))) pss_nil)
      (pss_cons (ps_set (i := 1) sc_ascending.nd rfl (.inl rfl) (pe_op op_fdivW (pe_callB cr_len rfl T.b_len (by decide +kernel) (pa_cons (pv 0) pa_nil)) pe_int))
      (pss_one (ps_ret (pe_fn T.f_merged (ok_merged T) (hr.mono (by decide)) (pa_cons (pe_fn T.f_ascending (ok_ascending_6 T) (hr.mono (by decide)) (pa_cons (pe_slice sl_list (pv 0) po_none (po_some (pv 1))) pa_nil)) (pa_cons (pe_fn T.f_ascending (ok_ascending_6 T) (hr.mono (by decide)) (pa_cons (pe_slice sl_list (pv 0) (po_some (pv 1)) po_none) pa_nil)) pa_nil))))))), ?_⟩
    refine My.i_go (σ' := [some _, none]) rfl ?_
    repeat walk_at "h"
    refine i_lenL hl ?_
    repeat walk_at "h"
    refine ite2 (fun hs => ?_) (fun hs => ?_)
    · have hs := of_decide_eq_true hs
      repeat walk_at "h"
      refine i_tupN hl fun p H1 S1 hp e1 => k p H1 S1 ?_
      rw [srt_few (by omega)]
      exact .tup (.of e1) (hx.same S1)
    have hs : ¬ ((xs.length : Int) < 2) := fun z => hs (decide_eq_true z)
    have hs2 : ¬ ds.length < 2 := by omega
    rw [srt_step hs2] at k
    have hp2 := pow2 6
    repeat walk_at "h"
    refine i_lenL hl ?_
    repeat walk_at "h"
    have eh : (xs.length : Int) / 2 = ((ds.length / 2 : Nat) : Int) := by omega
    rw [eh]
    refine i_slL hl fun p1 H1 S1 hp1 e1 => ?_
    rw [cut_to (by omega)] at e1
    repeat walk_at "h"
    refine ⟨p1, _, ds.take (ds.length / 2), rfl, .of e1, dpAll_take _ (hx.same S1), (noLAll_iff _).mpr fun d hd => (noLAll_iff ds).mp nd d (List.mem_of_mem_take hd), hF.sub fun d hd => List.mem_of_mem_take hd, by rw [List.length_take]; omega, by rw [List.length_take]; omega, fun q2 H2 S2 d2 => ?_⟩
    repeat walk_at "h"
    refine i_slL (S2.seq (S1.seq hl)) fun p3 H3 S3 hp3 e3 => ?_
    rw [cut_from (by omega)] at e3
    repeat walk_at "h"
    refine ⟨p3, _, ds.drop (ds.length / 2), rfl, .of e3, dpAll_drop _ (hx.same ((S1.trans S2).trans S3)), (noLAll_iff _).mpr fun d hd => (noLAll_iff ds).mp nd d (List.mem_of_mem_drop hd), hF.sub fun d hd => List.mem_of_mem_drop hd, by rw [List.length_drop]; omega, by rw [List.length_drop]; omega, fun q4 H4 S4 d4 => ?_⟩
    repeat walk_at "h"
    have m2 : ∀ d ∈ srt 6 (ds.take (ds.length / 2)), d ∈ ds := fun d hd => List.mem_of_mem_take (srt_mem _ _ d hd)
    have m4 : ∀ d ∈ srt 6 (ds.drop (ds.length / 2)), d ∈ ds := fun d hd => List.mem_of_mem_drop (srt_mem _ _ d hd)
    refine ⟨q2, q4, _, _, rfl, (d2.same S3).same S4, d4, (noLAll_iff _).mpr fun d hd => (noLAll_iff ds).mp nd d (m2 d hd), (noLAll_iff _).mpr fun d hd => (noLAll_iff ds).mp nd d (m4 d hd), hF.sub fun d hd => ?_, by rw [srt_len, srt_len, List.length_take, List.length_drop]; omega, fun q5 H5 S5 d5 => k q5 H5 ((((S1.trans S2).trans S3).trans S4).trans S5) d5⟩
    rcases List.mem_append.mp hd with hd | hd
    · exact m2 d hd
    · exact m4 d hd
theorem ok_ascending_8 (T : Tx K mg) : FnAt P w K mg base CX0 10 (He.ga K "ascending") ["rows"] (spAsc K 8) := by
  refine T.f_ascending.f.ok sc_ascending ?_ (fun cdv A outer s H vs Q E hr h => ?_)
  · walk_at "len"
  · obtain ⟨a, xs, ds, rfl, hl, hx, nd, hF, h1, h2, k⟩ := h
    have hxl := dpAll_len hx
    refine ⟨_, (pss_cons (ps_if (pt_cmpR op_lt (pe_callB cr_len rfl T.b_len (by decide +kernel) (pa_cons (pv 0) pa_nil)) pe_int (nomark _)) (pss_one (ps_ret (pe_callTy cr_tupN rfl T.b_tuple (by decide +kernel) (pa_cons (pv 0) pa_nil)))) pss_nil)
      (pss_cons (ps_set (i := 1) sc_ascending.nd rfl (.inl rfl) (pe_op op_fdivW (pe_callB cr_len rfl T.b_len (by decide +kernel) (pa_cons (pv 0) pa_nil)) pe_int))
      (pss_one (ps_ret (pe_fn T.f_merged (ok_merged T) (hr.mono (by decide)) (pa_cons (pe_fn T.f_ascending (ok_ascending_7 T) (hr.mono (by decide)) (pa_cons (pe_slice sl_list (pv 0) po_none (po_some (pv 1))) pa_nil)) (pa_cons (pe_fn T.f_ascending (ok_ascending_7 T) (hr.mono (by decide)) (pa_cons (pe_slice sl_list (pv 0) (po_some (pv 1)) po_none) pa_nil)) pa_nil))))))), ?_⟩
    refine My.i_go (σ' := [some _, none]) rfl ?_
    repeat walk_at "h"
    refine i_lenL hl ?_
    repeat walk_at "h"
    refine ite2 (fun hs => ?_) (fun hs => ?_)
    · have hs := of_decide_eq_true hs
      repeat walk_at "h"
      refine i_tupN hl fun p H1 S1 hp e1 => k p H1 S1 ?_
      rw [srt_few (by omega)]
      exact .tup (.of e1) (hx.same S1)
    have hs : ¬ ((xs.length : Int) < 2) := fun z => hs (decide_eq_true z)
    have hs2 : ¬ ds.length < 2 := by omega
    rw [srt_step hs2] at k
    have hp2 := pow2 7
    repeat walk_at "h"
    refine i_lenL hl ?_
    repeat walk_at "h"
    have eh : (xs.length : Int) / 2 = ((ds.length / 2 : Nat) : Int) := by omega
    rw [eh]
    refine i_slL hl fun p1 H1 S1 hp1 e1 => ?_
    rw [cut_to (by omega)] at e1
    repeat walk_at "h"
    refine ⟨p1, _, ds.take (ds.length / 2), rfl, .of e1, dpAll_take _ (hx.same S1), (noLAll_iff _).mpr fun d hd => (noLAll_iff ds).mp nd d (List.mem_of_mem_take hd), hF.sub fun d hd => List.mem_of_mem_take hd, by rw [List.length_take]; omega, by rw [List.length_take]; omega, fun q2 H2 S2 d2 => ?_⟩
    repeat walk_at "h"
    refine i_slL (S2.seq (S1.seq hl)) fun p3 H3 S3 hp3 e3 => ?_
    rw [cut_from (by omega)] at e3
    repeat walk_at "h"
    refine ⟨p3, _, ds.drop (ds.length / 2), rfl, .of e3, dpAll_drop _ (hx.same ((S1.trans S2).trans S3)), (noLAll_iff _).mpr fun d hd => (noLAll_iff ds).mp nd d (List.mem_of_mem_drop hd), hF.sub fun d hd => List.mem_of_mem_drop hd, by rw [List.length_drop]; omega, by rw [List.length_drop]; omega, fun q4 H4 S4 d4 => ?_⟩
    repeat walk_at "h"
    have m2 : ∀ d ∈ srt 7 (ds.take (ds.length / 2)), d ∈ ds := fun d hd => List.mem_of_mem_take (srt_mem _ _ d hd)
    have m4 : ∀ d ∈ srt 7 (ds.drop (ds.length / 2)), d ∈ ds := fun d hd => List.mem_of_mem_drop (srt_mem _ _ d hd)
    refine ⟨q2, q4, _, _, rfl, (d2.same S3).same S4, d4, (noLAll_iff _).mpr fun d hd => (noLAll_iff ds).mp nd d (m2 d hd), (noLAll_iff _).mpr fun d hd => (noLAll_iff ds).mp nd d (m4 d hd), hF.sub fun d hd => ?_, by rw [srt_len, srt_len, List.length_take, List.length_drop]; omega, fun q5 H5 S5 d5 => k q5 H5 ((((S1.trans S2).trans S3).trans S4).trans S5) d5⟩
    rcases List.mem_append.mp hd with hd | hd
    · exact m2 d hd
    · exact m4 d hd
theorem sc_all_settings : FnScope ["ranges", "loads", "places", "meter", "place", "row", "choices", "load", "choice"] ["ranges", "loads"] (defScope s_all_settings) := ⟨rfl, rfl, rfl, by decide +kernel, rfl, by decide +kernel, by decide +kernel⟩
theorem ok_all_settings (T : Tx K mg) : FnAt P w K mg base CX0 11 (He.ga K "all_settings") ["ranges", "loads"] (spSettings K) := by
  refine T.f_all_settings.f.ok sc_all_settings ?_ (fun cdv A outer s H vs Q E hr h => ?_)
  · walk_at "len"
  · obtain ⟨rd, ld, kvs, lks, L, rfl, hrd, hld, hk, hlk, ok, hne, k⟩ := h
    have h4 : ∀ m ∈ L.meters, m.2.length ≤ 4 := fun m hm => (ok.rows m hm).2.1
    have hm3 := ok.m3
    have hkl := hk.len
    refine ⟨_, (pss_cons (ps_set (i := 2) sc_all_settings.nd rfl (.inl rfl) (pe_lst (pa_cons (pe_tup pa_nil) pa_nil)))
      (pss_cons (ps_lock (ps_for PassesOwn.never rfl (pi_keys (pv 0)) (pg_name (i := 3) sc_all_settings.nd rfl (.inr rfl)) (pss_one (ps_setLc2 (i := 2) (own := [("place", 4), ("row", 5)]) (vs1 := [5]) rfl sc_all_settings.nd rfl rfl (sw_true rfl rfl rfl (by decide +kernel)) (pi_list (pv 2)) (blkOk_by (own := [("place", 4), ("row", 5)]) (N := ["ranges", "loads", "places", "meter", "place", "row", "choices", "load", "choice"]) (sc := defScope s_all_settings) (by decide +kernel)) (by decide) (fun _ _ _ _ _ => (pg_name (i := 4) sc_all_settings.nd rfl (.inl rfl))) (fun _ _ _ _ _ => pts_nil) (fun _ _ _ _ _ => (pi_tupK (K := K) rfl (pe_dget (hu_of hr) (pv 0) (pv 3) (fun _ _ => rfl)))) (fun _ _ _ _ _ => (pg_name (i := 5) sc_all_settings.nd rfl (.inl rfl))) (fun _ _ _ _ _ => pts_nil) (fun _ _ _ _ _ => (pe_tup (pa_starK (K := K) rfl (pv 4) (pa_cons (pe_ix (ix_seqK (K := K) rfl) (pv 5) pe_int (fun _ _ => rfl)) pa_nil))))))))
      (pss_cons (ps_set (i := 6) sc_all_settings.nd rfl (.inr rfl) (pe_lst (pa_cons (pe_tup pa_nil) pa_nil)))
      (pss_cons (ps_lock (ps_for PassesOwn.never rfl (pi_keys (pv 1)) (pg_name (i := 7) sc_all_settings.nd rfl (.inr rfl)) (pss_one (ps_set (i := 6) sc_all_settings.nd rfl (.inr rfl) (pe_op op_cat (pv 6) (pe_lc (own := [("choice", 8)]) rfl sc_all_settings.nd (pi_list (pv 6)) (blkOk_by (own := [("choice", 8)]) (N := ["ranges", "loads", "places", "meter", "place", "row", "choices", "load", "choice"]) (sc := defScope s_all_settings) (by decide +kernel)) (fun _ _ _ _ _ => (pg_name (i := 8) sc_all_settings.nd rfl (.inl rfl))) (fun _ _ _ _ _ => pts_nil) (fun _ _ _ _ _ => (pe_tup (pa_starK (K := K) rfl (pv 8) (pa_cons (pv 7) pa_nil))))))))))
      (pss_one (ps_ret (pe_fn T.f_ascending (ok_ascending_8 T) (hr.mono (by decide)) (pa_cons (pe_lc2 (own := [("place", 4), ("choice", 8)]) (vs1 := [8]) rfl sc_all_settings.nd (pi_list (pv 2)) (blkOk_by (own := [("place", 4), ("choice", 8)]) (N := ["ranges", "loads", "places", "meter", "place", "row", "choices", "load", "choice"]) (sc := defScope s_all_settings) (by decide +kernel)) (by decide) (fun _ _ _ _ _ => (pg_name (i := 4) sc_all_settings.nd rfl (.inl rfl))) (fun _ _ _ _ _ => pts_nil) (fun _ _ _ _ _ => (pi_listK (K := K) rfl (pv 6))) (fun _ _ _ _ _ => (pg_name (i := 8) sc_all_settings.nd rfl (.inl rfl))) (fun _ _ _ _ _ => pts_nil) (fun _ _ _ _ _ => (pe_tup (pa_cons (pv 4) (pa_cons (pv 8) pa_nil))))) pa_nil)))))))), ?_⟩
    refine My.i_go (σ' := [some _, some _, none, none, none, none, none, none, none]) rfl ?_
    repeat walk_at "h"
    rename_i p1 H1 S1 hp1 e1 p2 H2 S2 hp2 e2
    have S02 := S1.trans S2
    refine i_lockS (S02 _ _ hrd) fun od Hl Bl el => ?_
    have n1 : p1 ≠ rd := ne_of (S2 _ _ e1) (S02 _ _ hrd) (fun z => by cases z)
    have n2 : p2 ≠ rd := ne_of e2 (S02 _ _ hrd) (fun z => by cases z)
    have toL : ∀ v d, noL d = true → Dp K H v d → Dp K Hl v d := fun v d n h => dp_butN (S02 _ _ hrd) trivial Bl n (h.same S02)
    repeat walk_at "h"
    refine i_keysv el ?_
    refine forq_n (n := kvs.length) (fun j σ' H' => ∃ pl w3 xs, σ' = [some (.ref rd), some (.ref ld), some (.ref pl), w3, none, none, none, none, none] ∧ H' pl = some (.lst xs) ∧ DpAll K H' xs ((placesOf (L.meters.take j)).map namesD) ∧ Same Hl H') ⟨p2, none, [.ref p1], rfl, Bl _ _ n2 e2, .cons (dp_names (ns := []) (.of (Bl _ _ n1 (S2 _ _ e1)))) .nil, Same.refl _⟩ (fun j σ' H' hj ⟨_, _, _, _, _, _, S⟩ => ⟨S _ _ el, hj⟩) (fun σ' H' ⟨_, _, _, _, _, _, S⟩ => ⟨S _ _ el, Nat.le_refl _⟩) ?_ ?_
    · rintro j x σ' H' H1' hj ⟨pl, w3, xs, rfl, e3, hx, S3⟩ ⟨rfl, kk, v, hkv, rfl⟩
      obtain ⟨m, hm, hk1, hv1⟩ := paired_get hk hkv
      obtain rfl : kk = Sum.inr m.1 := hk1
      have hmm := List.mem_of_getElem? hm
      obtain ⟨v', gv, rv⟩ := hk.get ok.md hmm
      have hjm : j < L.meters.length := (List.getElem?_eq_some_iff.mp hm).1
      have hmj : L.meters[j] = m := (List.getElem?_eq_some_iff.mp hm).2
      have nrow : noL (.tuple (m.2.map fun r => rowD (lowR L.spread r))) = true := noL_map (noL_low L.spread) m.2
      have rv2 : Dp K H1' v' (.tuple (m.2.map fun r => rowD (lowR L.spread r))) := (toL _ _ nrow rv).same S3
      obtain ⟨tt, ys, rfl, hty, dys⟩ := dp_tup rv2
      obtain ⟨b1, b2⟩ := placesOf_bound h4 j (by omega)
      have b3 : 4 ^ j ≤ 64 := Nat.le_trans (Nat.pow_le_pow_right (by decide) (show j ≤ 3 by omega)) (by decide)
      have hxl : xs.length = (placesOf (L.meters.take j)).length := by have := dpAll_len hx; rwa [List.length_map] at this
      have hyl : ys.length = m.2.length := by have := dpAll_len dys; rwa [List.length_map] at this
      have hm4 := h4 m hmm
      generalize hP : placesOf (L.meters.take j) = P at *
      repeat walk_at "h"
      refine lcq2_y (n := xs.length) (fun A i H'' acc => H1' A = none ∧ Same H1' H'' ∧ H'' A = some (.lst acc) ∧ DpAll K H'' acc ((stepP (P.take i) m.2).map namesD)) (fun A H'' hS hA e => ⟨hA, hS, e, .nil⟩) (fun A i H'' acc hi ⟨_, S, _⟩ => ⟨xs, xs[i], .of (S _ _ e3), by simp [hi]⟩) (fun A H'' acc ⟨_, S, _⟩ => ⟨xs, .of (S _ _ e3), Nat.le_refl _⟩) ?_ ?_
      · rintro A i x H'' H2'' acc hi ⟨hA, S, eA, ha⟩ ⟨rfl, hy⟩
        have hxi := hy xs (.of (S _ _ e3))
        obtain ⟨d, hd, hdp⟩ := dpAll_get hx hxi
        rw [List.getElem?_map] at hd
        obtain ⟨p, hp, rfl⟩ := Option.map_eq_some_iff.mp hd
        obtain ⟨q, rfl, hq⟩ := names_dp hdp
        have hpl : p.length = j := b2 p (List.mem_of_getElem? hp)
        repeat walk_at "h"
        refine ⟨rfl, ?_⟩
        repeat walk_at "h"
        refine i_dgF (S _ _ (S3 _ _ el)) gv ?_
        repeat walk_at "h"
        have hal : acc.length = i * m.2.length := by
          rw [dpAll_len ha, List.length_map, stepP_len, List.length_take]
          have := (List.getElem?_eq_some_iff.mp hxi).1
          rw [Nat.min_eq_left (by omega)]
        have hi64 : i < 64 := by omega
        refine inn_y (n := m.2.length) (fun jj H3 acc' => Same H1' H3 ∧ H3 A = some (.lst acc') ∧ DpAll K H3 acc' ((stepP (P.take i) m.2 ++ (m.2.take jj).map fun r => p ++ [r.n]).map namesD)) (acc0 := acc) ⟨S, eA, by rw [List.take_zero, List.map_nil, List.append_nil]; exact ha⟩ (fun jj H3 acc' hj3 ⟨S4, _⟩ => ⟨ys, ys[jj]'(by omega), S4.seqT hty, by simp⟩) (fun H3 acc' ⟨S4, _⟩ => ⟨ys, S4.seqT hty, by omega⟩) ?_ ?_
        · rintro jj y H3 H3' acc' hj3 ⟨S4, eA4, ha4⟩ ⟨rfl, hyy⟩
          have hyi := hyy ys (S4.seqT hty)
          obtain ⟨d, hd, hdp⟩ := dpAll_get (dys.same S4) hyi
          rw [List.getElem?_map] at hd
          obtain ⟨r, hr9, rfl⟩ := Option.map_eq_some_iff.mp hd
          obtain ⟨c, g, u, d', t, rfl, hc, _⟩ := row_dp hdp
          repeat walk_at "h"
          refine ⟨rfl, ?_⟩
          have hq4 := S4.seqT hq
          repeat walk_at "h"
          refine i_szT (by rw [List.length_append, List.length_map, hpl]; exact Nat.le_trans (show j + 1 ≤ 4 by omega) (by decide)) fun T2 H5 S5 hT2 eT2 => ?_
          have hal4 : acc'.length = i * m.2.length + jj := by
            rw [dpAll_len ha4, List.length_map, List.length_append, stepP_len, List.length_take, List.length_map, List.length_take]
            have := (List.getElem?_eq_some_iff.mp hxi).1
            rw [Nat.min_eq_left (by omega), Nat.min_eq_left (by omega)]
          have him : i * m.2.length ≤ 64 * 4 := Nat.mul_le_mul (by omega) hm4
          refine turnC_end (S5 _ _ eA4) (by rw [hal4]; omega) fun H6 B6 e6 => ⟨Same.ext (S4.trans S5) hA B6, e6, ?_⟩
          have e9 : (stepP (P.take i) m.2 ++ (m.2.take (jj + 1)).map fun r => p ++ [r.n]).map namesD = (stepP (P.take i) m.2 ++ (m.2.take jj).map fun r => p ++ [r.n]).map namesD ++ [namesD (p ++ [r.n])] := by
            rw [List.take_add_one, hr9]
            simp
          rw [e9]
          refine dpAll_snoc (dpAll_butN (S5 _ _ eA4) trivial B6 (noL_map noL_names _) (ha4.same S5)) ?_
          refine dp_butN (S5 _ _ eA4) trivial B6 (noL_names _) (dp_names (.of ?_))
          rw [eT2, List.map_append]
          rfl
        · rintro H3 acc' ⟨S4, eA4, ha4⟩
          refine ⟨acc', hA, S4, eA4, ?_⟩
          rw [stepP_take hp]
          rw [List.take_length] at ha4
          exact ha4
      · rintro A H3 acc ⟨hA, S, eA, ha⟩
        rw [hxl, List.take_length] at ha
        repeat walk_at "h"
        refine ⟨A, some (.str m.1), acc, rfl, eA, ?_, S3.trans S⟩
        rw [placesOf_take hjm, hP, hmj]
        exact ha
    · rintro σ' H' ⟨pl, w3, xs, rfl, e3, hx, S3⟩
      rw [hkl, List.take_length] at hx
      refine ⟨S3 _ _ el, ?_⟩
      have S23 := unlock_same (S02 _ _ hrd) Bl S3
      have npl : pl ≠ rd := ne_of e3 (S3 _ _ el) (fun z => by cases z)
      have e3u : (upd H' rd (.dK kvs)) pl = some (.lst xs) := by rw [upd_ne npl]; exact e3
      have hxu : DpAll K (upd H' rd (.dK kvs)) xs ((placesOf L.meters).map namesD) := dpAll_butN (S3 _ _ el) trivial But.upd (noL_map noL_names _) hx
      generalize upd H' rd (.dK kvs) = H3 at S23 e3u hxu ⊢
      have S03 := S02.trans S23
      repeat walk_at "h"
      rename_i p5 H5 S5 hp5 e5 p6 H6 S6 hp6 e6
      have S06 := (S03.trans S5).trans S6
      refine i_lockS (S06 _ _ hld) fun od2 Hm Bm em => ?_
      have n5 : p5 ≠ ld := ne_of (S6 _ _ e5) (S06 _ _ hld) (fun z => by cases z)
      have n6 : p6 ≠ ld := ne_of e6 (S06 _ _ hld) (fun z => by cases z)
      have hlkl := hlk.len
      have hl2 := ok.l2
      repeat walk_at "h"
      refine i_keysv em ?_
      refine forq_n (n := lks.length) (fun j σ' H' => ∃ cl w7 cs, σ' = [some (.ref rd), some (.ref ld), some (.ref pl), w3, none, none, some (.ref cl), w7, none] ∧ H' cl = some (.lst cs) ∧ DpAll K H' cs ((choicesOf (L.loads.take j)).map namesD) ∧ Same Hm H') ⟨p6, none, [.ref p5], rfl, Bm _ _ n6 e6, .cons (dp_names (ns := []) (.of (Bm _ _ n5 (S6 _ _ e5)))) .nil, Same.refl _⟩ (fun j σ' H' hj ⟨_, _, _, _, _, _, S⟩ => ⟨S _ _ em, hj⟩) (fun σ' H' ⟨_, _, _, _, _, _, S⟩ => ⟨S _ _ em, Nat.le_refl _⟩) ?_ ?_
      · rintro j x σ' H' H1' hj ⟨cl, w7, cs, rfl, e7, hc, S7⟩ ⟨rfl, kk, v, hkv, rfl⟩
        obtain ⟨m, hm, hk1, hv1⟩ := paired_get hlk hkv
        obtain rfl : kk = Sum.inr m.1 := hk1
        have hjm : j < L.loads.length := (List.getElem?_eq_some_iff.mp hm).1
        have hmj : L.loads[j] = m := (List.getElem?_eq_some_iff.mp hm).2
        obtain ⟨b1, b2⟩ := choicesOf_bound (ls := L.loads) j (by omega)
        have b3 : 2 ^ j ≤ 4 := Nat.le_trans (Nat.pow_le_pow_right (by decide) (show j ≤ 2 by omega)) (by decide)
        have hcl : cs.length = (choicesOf (L.loads.take j)).length := by have := dpAll_len hc; rwa [List.length_map] at this
        generalize hC : choicesOf (L.loads.take j) = C at *
        repeat walk_at "h"
        refine lcq_list (xs := cs) (fun A i H'' acc => H1' A = none ∧ Same H1' H'' ∧ H'' A = some (.lst acc) ∧ DpAll K H'' acc ((C.take i).map fun c => namesD (c ++ [m.1]))) (fun A H'' hS hA e => ⟨hA, hS, e, .nil⟩) (fun A i H'' acc _ ⟨_, S, _⟩ => .of (S _ _ e7)) ?_ ?_
        · rintro A i x H'' acc hxi hal _ ⟨hA, S, eA, ha⟩
          obtain ⟨d, hd, hdp⟩ := dpAll_get (hc.same S) hxi
          rw [List.getElem?_map] at hd
          obtain ⟨p, hp, rfl⟩ := Option.map_eq_some_iff.mp hd
          obtain ⟨q, rfl, hq⟩ := names_dp hdp
          have hpl := b2 p (List.mem_of_getElem? hp)
          repeat walk_at "h"
          refine ⟨rfl, ?_⟩
          repeat walk_at "h"
          refine i_szT (by rw [List.length_append, List.length_map]; exact Nat.le_trans (show p.length + 1 ≤ 4 by omega) (by decide)) fun T2 H9 S9 hT2 eT2 => ?_
          have := (List.getElem?_eq_some_iff.mp hxi).1
          refine turn_end (S9 _ _ eA) hal (by omega) fun H8 B8 e8 => ⟨hA, Same.ext (S.trans S9) hA B8, e8, ?_⟩
          rw [List.take_add_one, hp, Option.toList_some, List.map_append]
          refine dpAll_snoc (dpAll_butN (S9 _ _ eA) trivial B8 (noL_map (f := fun c => namesD (c ++ [m.1])) (fun _ => noL_names _) _) (ha.same S9)) ?_
          refine dp_butN (S9 _ _ eA) trivial B8 (noL_names _) (dp_names (.of ?_))
          rw [eT2, List.map_append]
          rfl
        · rintro A H9 acc hal _ ⟨hA, S, eA, ha⟩
          rw [hcl, List.take_length] at ha
          repeat walk_at "h"
          refine i_catL (S _ _ e7) eA (by rw [hal, hcl, b1]; exact Nat.le_trans (show 2 ^ j + 2 ^ j ≤ 8 by omega) (by decide)) fun p9 H10 S10 hp9 e10 => ?_
          repeat walk_at "h"
          refine ⟨p9, some (.str m.1), _, rfl, e10, ?_, (S7.trans S).trans S10⟩
          rw [choicesOf_take hjm, hC, hmj]
          unfold stepC
          rw [List.map_append, List.map_map]
          exact dpAll_app ((hc.same S).same S10) (ha.same S10)
      · rintro σ' H' ⟨cl, w7, cs, rfl, e7, hc, S7⟩
        rw [hlkl, List.take_length] at hc
        refine ⟨S7 _ _ em, ?_⟩
        have S68 := unlock_same (S06 _ _ hld) Bm S7
        have ncl : cl ≠ ld := ne_of e7 (S7 _ _ em) (fun z => by cases z)
        have e7u : (upd H' ld (.dK lks)) cl = some (.lst cs) := by rw [upd_ne ncl]; exact e7
        have hcu : DpAll K (upd H' ld (.dK lks)) cs ((choicesOf L.loads).map namesD) := dpAll_butN (S7 _ _ em) trivial But.upd (noL_map noL_names _) hc
        generalize upd H' ld (.dK lks) = H8 at S68 e7u hcu ⊢
        have e38 := S68 _ _ (S6 _ _ (S5 _ _ e3u))
        have hx8 := ((hxu.same S5).same S6).same S68
        obtain ⟨b1, b2⟩ := placesOf_bound h4 L.meters.length (Nat.le_refl _)
        obtain ⟨b4, b5⟩ := choicesOf_bound (ls := L.loads) L.loads.length (Nat.le_refl _)
        rw [List.take_length] at b1 b2 b4 b5
        have b3 : 4 ^ L.meters.length ≤ 64 := Nat.le_trans (Nat.pow_le_pow_right (by decide) hm3) (by decide)
        have b6 : 2 ^ L.loads.length ≤ 4 := Nat.le_trans (Nat.pow_le_pow_right (by decide) hl2) (by decide)
        have hxl : xs.length = (placesOf L.meters).length := by have := dpAll_len hx8; rwa [List.length_map] at this
        have hcl : cs.length = (choicesOf L.loads).length := by have := dpAll_len hcu; rwa [List.length_map] at this
        clear hx hc hxu e3u
        generalize hP : placesOf L.meters = P at *
        generalize hC : choicesOf L.loads = C at *
        repeat walk_at "h"
        refine lcq2_y (n := xs.length) (fun A i H'' acc => H8 A = none ∧ Same H8 H'' ∧ H'' A = some (.lst acc) ∧ DpAll K H'' acc (((P.take i).flatMap fun p => C.map fun c => (p, c)).map settingD)) (fun A H'' hS hA e => ⟨hA, hS, e, .nil⟩) (fun A i H'' acc hi ⟨_, S, _⟩ => ⟨xs, xs[i], .of (S _ _ e38), by simp [hi]⟩) (fun A H'' acc ⟨_, S, _⟩ => ⟨xs, .of (S _ _ e38), Nat.le_refl _⟩) ?_ ?_
        · rintro A i x H'' H2'' acc hi ⟨hA, S, eA, ha⟩ ⟨rfl, hy⟩
          have hxi := hy xs (.of (S _ _ e38))
          obtain ⟨d, hd, hdp⟩ := dpAll_get hx8 hxi
          rw [List.getElem?_map] at hd
          obtain ⟨p, hp, rfl⟩ := Option.map_eq_some_iff.mp hd
          have hal : acc.length = i * C.length := by
            rw [dpAll_len ha, List.length_map]
            rw [pair_len, List.length_take]
            have := (List.getElem?_eq_some_iff.mp hxi).1
            rw [Nat.min_eq_left (by omega)]
          repeat walk_at "h"
          refine ⟨rfl, ?_⟩
          have e7i := S _ _ e7u
          repeat walk_at "h"
          refine inn_y (n := cs.length) (fun jj H9 acc' => Same H8 H9 ∧ H9 A = some (.lst acc') ∧ DpAll K H9 acc' ((((P.take i).flatMap fun p => C.map fun c => (p, c)) ++ (C.take jj).map fun c => (p, c)).map settingD)) (acc0 := acc) ⟨S, eA, by rw [List.take_zero, List.map_nil, List.append_nil]; exact ha⟩ (fun jj H9 acc' hj3 ⟨S4, _⟩ => ⟨cs, cs[jj], .of (S4 _ _ e7u), by simp⟩) (fun H9 acc' ⟨S4, _⟩ => ⟨cs, .of (S4 _ _ e7u), Nat.le_refl _⟩) ?_ ?_
          · rintro jj y H9 H9' acc' hj3 ⟨S4, eA4, ha4⟩ ⟨rfl, hyy⟩
            have hyi := hyy cs (.of (S4 _ _ e7u))
            obtain ⟨d2, hd2, hdp2⟩ := dpAll_get (hcu.same S4) hyi
            rw [List.getElem?_map] at hd2
            obtain ⟨c, hc9, rfl⟩ := Option.map_eq_some_iff.mp hd2
            repeat walk_at "h"
            refine ⟨rfl, ?_⟩
            repeat walk_at "h"
            rename_i T2 H10 S10 hT2 eT2
            have hal4 : acc'.length = i * C.length + jj := by
              have h1 := dpAll_len ha4
              have h2 := dpAll_len ha
              rw [List.length_map, List.length_append, List.length_map, List.length_take] at h1
              rw [List.length_map] at h2
              rw [h1, ← h2, hal]
              omega
            have him : i * C.length ≤ 64 * 4 := Nat.mul_le_mul (by omega) (by omega)
            refine turnC_end (S10 _ _ eA4) (by rw [hal4]; omega) fun H6 B6 e6 => ⟨Same.ext (S4.trans S10) hA B6, e6, ?_⟩
            have e9 : (((P.take i).flatMap fun p => C.map fun c => (p, c)) ++ (C.take (jj + 1)).map fun c => (p, c)).map settingD = (((P.take i).flatMap fun p => C.map fun c => (p, c)) ++ (C.take jj).map fun c => (p, c)).map settingD ++ [settingD (p, c)] := by
              rw [List.take_add_one, hc9]
              simp
            rw [e9]
            refine dpAll_snoc (dpAll_butN (S10 _ _ eA4) trivial B6 (noL_map noL_setting _) (ha4.same S10)) ?_
            exact dp_butN (S10 _ _ eA4) trivial B6 (noL_setting _) (.tup (.of eT2) (.cons (hdp.same (S4.trans S10)) (.cons (hdp2.same S10) .nil)))
          · rintro H9 acc' ⟨S4, eA4, ha4⟩
            refine ⟨acc', hA, S4, eA4, ?_⟩
            have e9 : ((P.take (i + 1)).flatMap fun p => C.map fun c => (p, c)) = ((P.take i).flatMap fun p => C.map fun c => (p, c)) ++ C.map fun c => (p, c) := by
              rw [List.take_add_one, hp, List.flatMap_append]
              simp
            rw [e9]
            rw [hcl, List.take_length] at ha4
            exact ha4
        · rintro A H9 acc ⟨hA, S, eA, ha⟩
          rw [hxl, List.take_length] at ha
          repeat walk_at "h"
          have hraw : rawSettings L = P.flatMap fun p => C.map fun c => (p, c) := by unfold rawSettings; rw [hP, hC]
          refine ⟨A, acc, _, rfl, .of eA, ha, noL_map noL_setting _, form_settings _, ?_, ?_, fun p H10 S10 d10 => k p H10 ?_ ?_⟩
          · rw [List.length_map, pair_len]
            exact Nat.le_trans (Nat.mul_le_mul (Nat.le_trans b1 b3) (show C.length ≤ 4 by omega)) (by decide)
          · rw [List.length_map, pair_len]
            exact Nat.le_trans (Nat.mul_le_mul (Nat.le_trans b1 b3) (show C.length ≤ 4 by omega)) (by decide)
          · exact ((((S03.trans S5).trans S6).trans S68).trans S).trans S10
          · unfold settingsD
            rw [hraw]
            exact d10
theorem sc_Bench___init__ : FnScope ["self", "text", "lines", "spread", "meters", "behind", "loads", "meter"] ["self", "text"] (defScope s_Bench___init__) := ⟨rfl, rfl, rfl, by decide +kernel, rfl, by decide +kernel, by decide +kernel⟩
theorem ok_Bench___init__ (T : Tx K mg) : FnAt P w K mg base CX0 12 (He.ma K (He.ga K "Bench") "__init__") ["self", "text"] (spBenInit K (He.ga K "Bench")) := by
  refine T.d_Bench___init__.f.ok sc_Bench___init__ ?_ (fun cdv A outer s H vs Q E hr h => ?_)
  · walk_at "len"
  · obtain ⟨x, dx, L, rfl, hx, ok, k⟩ := h
    have hc := T.c_Bench
    have a1 := T.a_Bench__text; have a2 := T.a_Bench__spread; have a3 := T.a_Bench__ranges; have a4 := T.a_Bench__loads; have a5 := T.a_Bench__settings
    obtain ⟨w0, hw0, hsn⟩ := lines_head ok
    have hfew := ok.few
    have hs20 := ok.spread
    refine ⟨_, (pss_cons (ps_if (pt_not (pt_val (pe_callB call_isi rfl T.b_isinstance (by decide +kernel) (pa_cons (pv 1) (pa_cons (pe_bltn (v := .ty "str") rfl T.b_str (by decide +kernel) rfl) pa_nil))))) (pss_one ps_never) pss_nil)
      (pss_cons (ps_set (i := 2) sc_Bench___init__.nd rfl (.inl rfl) (pe_bm PySem.F.plainAttrs_str PySem.F.slot_str_split PySem.F.type_str_split mt_splitN' (pv 1) (pa_cons pe_str pa_nil)))
      (pss_cons (ps_set (i := 3) sc_Bench___init__.nd rfl (.inr rfl) (pe_fn T.f_spread_of (ok_spread_of T) (hr.mono (by decide)) (pa_cons (pe_ix ix_seq (pv 2) pe_int (fun _ _ => rfl)) pa_nil)))
      (pss_cons (ps_asg (pe_fn T.f_read_meters (ok_read_meters T) (hr.mono (by decide)) (pa_cons (pv 2) (pa_cons (pe_ifExp (pt_truth (pv 3) (by intro _; rfl)) pe_int pe_int) pa_nil))) (pg_tup rfl (pgs_cons (pg_name (i := 4) sc_Bench___init__.nd rfl (.inr rfl)) (pgs_cons (pg_name (i := 5) sc_Bench___init__.nd rfl (.inl rfl)) pgs_nil))))
      (pss_cons (ps_set (i := 6) sc_Bench___init__.nd rfl (.inl rfl) (pe_fn T.f_read_loads (ok_read_loads T) (hr.mono (by decide)) (pa_cons (pv 2) (pa_cons (pv 5) pa_nil))))
      (pss_cons (ps_fld (pv 0) (pv 1) rfl)
      (pss_cons (ps_fld (pv 0) (pv 3) rfl)
      (pss_cons (ps_fld (pv 0) (pe_lock (pe_dc (own := [("meter", 7)]) rfl sc_Bench___init__.nd (pi_keys (pv 4)) (blkOk_by (own := [("meter", 7)]) (N := ["self", "text", "lines", "spread", "meters", "behind", "loads", "meter"]) (sc := defScope s_Bench___init__) (by decide +kernel)) (fun _ _ _ _ _ => (pg_name (i := 7) sc_Bench___init__.nd rfl (.inl rfl))) (fun _ _ _ _ _ => pts_nil) (fun _ _ _ _ _ => (pv 7)) (fun _ _ _ _ _ => (pe_fn T.f_lowered (ok_lowered T) (hr.mono (by decide)) (pa_cons (pe_dget (hu_of hr) (pv 4) (pv 7) (fun _ _ => rfl)) (pa_cons (pv 3) pa_nil)))))) rfl)
      (pss_cons (ps_fld (pv 0) (pv 6) rfl)
      (pss_one (ps_fld (pv 0) (pe_fn T.f_all_settings (ok_all_settings T) (hr.mono (by decide)) (pa_cons (pe_fld (pv 0) rfl) (pa_cons (pv 6) pa_nil))) rfl))))))))))), ?_⟩
    refine My.i_go (σ' := [some _, some _, none, none, none, none, none, none]) rfl ?_
    repeat walk_at "h"
    refine i_split ok.split rfl (Nat.le_trans (Nat.add_le_add_right ok.text_le 2) (by decide)) fun p0 H1 S1 hp0 e1 => ?_
    repeat walk_at "h"
    refine i_ixsL (.of e1) (atI_nat (j := 0) (v := .str w0) (by rw [List.getElem?_map, hw0]; rfl)) ?_
    repeat walk_at "h"
    refine ⟨w0, rfl, ?_⟩
    rw [hsn]
    repeat walk_at "h"
    refine ⟨((L.spread : Int) != 0), rfl, ?_⟩
    refine i_joinHp (fun v H' => v = .int (offOf L.spread) ∧ H' = H1) (fun c Q' hQ => ?_) (fun c Q' hQ => ?_) ?_
    · have c : L.spread ≠ 0 := fun z => by rw [z] at c; simp at c
      repeat walk_at "h"
      refine hQ _ _ ⟨?_, rfl⟩
      unfold offOf
      rw [if_pos (by omega)]
      rfl
    · have c : L.spread = 0 := by
        have := bne_eq_false_iff_eq.mp c
        omega
      repeat walk_at "h"
      refine hQ _ _ ⟨?_, rfl⟩
      unfold offOf
      rw [if_neg (by omega)]
      rfl
    rintro _ _ ⟨rfl, rfl⟩
    repeat walk_at "h"
    refine ⟨p0, offOf L.spread, lines L, L.meters, L.loads, rfl, .of e1, by omega, lines_drop L, ok.m1, ok.m3, fun m hm => ⟨ok.mn m hm, ok.rows m hm⟩, ok.md, fun l hl => (ok.ln l hl).1, fun p2 d2 H2 kvs S2 hp2 hd2 e2 ed hk => ?_⟩
    repeat walk_at "h"
    have hd3 : (lines L).drop (offOf L.spread + (L.meters.flatMap meterLines).length) = L.loads.map loadLine := drop_at (lines_drop L) rfl
    have hlen : offOf L.spread + (L.meters.flatMap meterLines).length ≤ (lines L).length := by
      have := congrArg List.length (lines_drop L)
      rw [List.length_drop, List.length_append] at this
      have h1 := ok.m1
      have : 0 < (L.meters.flatMap meterLines).length := by
        cases e : L.meters with
        | nil => rw [e] at h1; simp at h1
        | cons m ms => rw [List.flatMap_cons, List.length_append, meterLines_len]; omega
      omega
    refine ⟨p0, _, lines L, L.loads, rfl, .of (S2 _ _ e1), by omega, hd3, hlen, ok.l2, ok.ln, ok.ld, fun d3 H3 lks S3 hd3 e3 hlk => ?_⟩
    have S03 := (S1.trans S2).trans S3
    repeat walk_at "h"
    refine i_fsv (S03 _ _ hx) hc a1 (by decide) fun H4 B4 e4 => ?_
    repeat walk_at "h"
    refine i_fsv e4 hc a2 (by show 1 < 1000; decide) fun H5 B5 e5 => ?_
    have BX := B4.trans B5
    have nx : ∀ q, H q = none → q ≠ x := fun q hq z => by rw [z, hx] at hq; cases hq
    have n2 := nx d2 (S1.free hd2)
    have n3 := nx d3 ((S1.trans S2).free hd3)
    have ed5 := BX _ _ n2 (S3 _ _ ed)
    have e35 := BX _ _ n3 e3
    have raw5 : ∀ v rows, RawR K H2 v rows → RawR K H5 v rows := fun v rows ⟨b, xs, ev, hb, hxs⟩ => by
      have hb3 := S3 _ _ hb
      have nb : b ≠ x := fun z => by rw [z] at hb3; have := S03 _ _ hx; rw [this] at hb3; cases hb3
      exact ⟨b, xs, ev, BX _ _ nb hb3, dpAll_butN (S03 _ _ hx) trivial BX (noL_map noL_row _) (hxs.same S3)⟩
    have ld5 : ∀ v q, LdR K H3 v q → LdR K H5 v q := fun v q h => dp_butN (S03 _ _ hx) trivial BX (noL_rat _) h
    repeat walk_at "h"
    refine i_lockK ed5 fun od Hl Bl el => ?_
    repeat walk_at "h"
    refine i_keysv el ?_
    refine dcq_y (n := kvs.length) (fun A i H' acc => Hl A = none ∧ Same Hl H' ∧ H' A = some (.dK acc) ∧ KP (BenR K H' L.spread) acc (L.meters.take i)) (fun A H' hS hA e => ⟨hA, hS, e, .nil⟩) (fun A i H' acc hi ⟨_, S, _⟩ => ⟨S _ _ el, hi⟩) (fun A H' acc ⟨_, S, _⟩ => ⟨S _ _ el, Nat.le_refl _⟩) ?_ ?_
    · rintro A i y H' H1' acc hi ⟨hA, S, eA, ha⟩ ⟨rfl, kk, v, hkv, rfl⟩
      obtain ⟨m, hm, hk1, hv1⟩ := paired_get hk hkv
      obtain rfl : kk = Sum.inr m.1 := hk1
      have hmm := List.mem_of_getElem? hm
      obtain ⟨v', gv, rv⟩ := hk.get ok.md hmm
      obtain ⟨b, xs, rfl, hb, hxs⟩ := ((raw5 _ _ rv).butK ed5 Bl).same S
      repeat walk_at "h"
      refine ⟨rfl, ?_⟩
      repeat walk_at "h"
      refine i_dgF (S _ _ el) gv ?_
      repeat walk_at "h"
      refine ⟨b, L.spread, xs, m.2, rfl, hb, hxs, hs20, (ok.rows m hmm).2.1, fun r hr q e => ?_, fun p H6 S6 hp6 d6 => ?_⟩
      · obtain ⟨ah, hro⟩ := ok.row hmm hr
        exact hro.dq q e
      have hal : acc.length ≤ 3 := by rw [ha.len, List.length_take]; have := ok.m3; omega
      refine turnD_end (S6 _ _ eA) (by omega) fun H7 B7 e7 => ⟨hA, Same.ext (S.trans S6) hA B7, e7, ?_⟩
      rw [List.take_add_one, hm]
      have nl : ∀ rows : List My.Row, noL (.tuple (rows.map fun r => rowD (lowR L.spread r))) = true := fun rows => noL_map (noL_low L.spread) rows
      exact KP.put (ha.imp fun v r hv => dp_butN (S6 _ _ eA) trivial B7 (nl _) (hv.same S6)) (nd_takeN ok.md hm) (dp_butN (S6 _ _ eA) trivial B7 (nl _) d6)
    · rintro A H' acc ⟨hA, S, eA, ha⟩
      rw [hk.len, List.take_length] at ha
      refine ⟨S _ _ el, ?_⟩
      have S6 := unlock_same ed5 Bl S
      have nA : A ≠ d2 := fun z => by rw [z, el] at hA; cases hA
      have eA6 : (upd H' d2 (.dK kvs)) A = some (.dK acc) := by rw [upd_ne nA]; exact eA
      have nl : ∀ rows : List My.Row, noL (.tuple (rows.map fun r => rowD (lowR L.spread r))) = true := fun rows => noL_map (noL_low L.spread) rows
      have ha6 : KP (BenR K (upd H' d2 (.dK kvs)) L.spread) acc L.meters := ha.imp fun v r hv => dp_butN (S _ _ el) trivial But.upd (nl _) hv
      have hA5 : H5 A = none := by
        cases z : H5 A with
        | none => rfl
        | some o => have := Bl _ _ nA z; rw [hA] at this; cases this
      generalize upd H' d2 (.dK kvs) = H6 at S6 eA6 ha6 ⊢
      repeat walk_at "h"
      rw [ben1] at e5
      refine i_fsv (S6 _ _ e5) hc a3 (by show 2 < 1000; decide) fun H7 B7 e7 => ?_
      rw [ben2] at e7
      repeat walk_at "h"
      refine i_fsv e7 hc a4 (by show 3 < 1000; decide) fun H8 B8 e8 => ?_
      rw [ben3] at e8
      repeat walk_at "h"
      refine i_fldv e8 hc a3 look_ranges ?_
      repeat walk_at "h"
      have nAx : A ≠ x := fun z => by rw [z, e5] at hA5; cases hA5
      have B78 := B7.trans B8
      have eA8 := B78 _ _ nAx eA6
      have e38 := B78 _ _ n3 (S6 _ _ e35)
      have ha8 : KP (BenR K H8 L.spread) acc L.meters := ha6.imp fun v r hv => dp_butN (S6 _ _ e5) trivial B78 (nl _) hv
      have hl8 : KP (LdR K H8) lks L.loads := hlk.imp fun v q h => dp_butN (S6 _ _ e5) trivial B78 (noL_rat _) (Dp.same (ld5 v q h) S6)
      have nAd : A ≠ d3 := fun z => by rw [z, e35] at hA5; cases hA5
      refine ⟨A, d3, acc, lks, L, rfl, eA8, e38, ha8, hl8, ok, nAd, fun p9 H9 S9 d9 => ?_⟩
      repeat walk_at "h"
      refine i_fsv (S9 _ _ e8) hc a5 (by show 4 < 1000; decide) fun H10 B10 e10 => ?_
      rw [ben4] at e10
      have B03 : But x H H5 := Same.butS S03 BX
      have B06 : But x H H6 := But.same B03 S6
      have B09 : But x H H9 := But.same (B06.trans B78) S9
      have e8' := S9 _ _ e8
      refine k H10 (B09.trans B10) ⟨dx, A, d3, .ref p9, acc, lks, e10, B10 _ _ nAx (S9 _ _ eA8), B10 _ _ n3 (S9 _ _ e38), ha8.imp fun v r hv => dp_butN e8' trivial B10 (nl _) (Dp.same hv S9), hl8.imp fun v q h => dp_butN e8' trivial B10 (noL_rat _) (Dp.same h S9), dp_butN e8' trivial B10 (noL_settings L) d9, nAd⟩
theorem sc__law_right : FnScope ["_law_pot_here", "_law_lore_here", "_law_bench", "_law_lap", "_law_one", "_law_held", "_law_setting", "_law_due", "_law_step", "_law_later"] ["_law_pot_here"] (defScope s__law_right) := ⟨rfl, rfl, rfl, by decide +kernel, rfl, by decide +kernel, by decide +kernel⟩
theorem ok__law_right (T : Tx K mg) : FnGAt P w K mg base CX0 16 (He.ga K "_law_right") ["_law_pot_here"] (spRound 1200) := by
  refine fun_okG T.f__law_right.f sc__law_right ?_ (fun cdv A outer s H vs Q E hgd hr h => ?_)
  · walk_at "len"
  · obtain ⟨p, n, rfl, hP, hn, k⟩ := h
    obtain ⟨l0, ep0⟩ := hP.some
    have nF : ¬ (fun a => H a = none) p := fun z => by rw [show H p = none from z] at ep0; cases ep0
    refine ⟨_, (pss_cons (ps_set (i := 1) sc__law_right.nd rfl (.inl rfl) (pe_fn T.f__law_drawn (ok__law_drawn T) (hr.mono (by decide)) (pa_cons (pv 0) (pa_cons pe_int pa_nil))))
      (pss_cons (ps_set (i := 2) sc__law_right.nd rfl (.inl rfl) (pe_mk T.k_Bench (fm := T.d_Bench___init__) (ok_Bench___init__ T) (hr.mono (by decide)) (pa_cons (pe_fn T.f__law_text (ok__law_text T) (hr.mono (by decide)) (pa_cons (pv 1) pa_nil)) pa_nil)))
      (pss_cons (ps_for PassesOwn.never rfl (pi_range1 rfl T.b_range (pa_cons pe_int pa_nil)) (pg_name (i := 3) sc__law_right.nd rfl (.inl rfl)) (pss_cons (ps_set (i := 4) sc__law_right.nd rfl (.inl rfl) (pe_fn T.f__law_any_source (ok__law_any_source T) (hr.mono (by decide)) (pa_cons (pv 0) (pa_cons (pv 1) pa_nil))))
      (pss_cons (ps_set (i := 5) sc__law_right.nd rfl (.inl rfl) (pe_mk T.k_Source (fm := T.d_Source___init__) (ok_Source___init__ T) (hr.mono (by decide)) (pa_cons (pe_ix ix_seq (pv 4) pe_int (fun _ _ => rfl)) (pa_cons (pe_ix ix_seq (pv 4) pe_int (fun _ _ => rfl)) pa_nil))))
      (pss_one (ps_for PassesOwn.never rfl (pi_list (pe_fn T.f__law_settings (ok__law_settings T) (hr.mono (by decide)) (pa_cons (pv 1) pa_nil))) (pg_name (i := 6) sc__law_right.nd rfl (.inl rfl)) (pss_cons (ps_set (i := 7) sc__law_right.nd rfl (.inl rfl) (pe_callTy cr_tupN rfl T.b_tuple (by decide +kernel) (pa_cons (pe_lc (own := [("_law_step", 8), ("_law_later", 9)]) rfl sc__law_right.nd (pi_list (pe_fn T.f__law_steps (ok__law_steps T) (hr.mono (by decide)) (pa_cons (pv 1) (pa_cons (pv 6) (pa_cons (pv 4) pa_nil))))) (blkOk_by (own := [("_law_step", 8), ("_law_later", 9)]) (N := ["_law_pot_here", "_law_lore_here", "_law_bench", "_law_lap", "_law_one", "_law_held", "_law_setting", "_law_due", "_law_step", "_law_later"]) (sc := defScope s__law_right) (by decide +kernel)) (fun _ _ _ _ _ => (pg_tupK (K := K) (n := 2) rfl rfl (pgs_cons (pg_name (i := 8) sc__law_right.nd rfl (.inl rfl)) (pgs_cons (pg_name (i := 9) sc__law_right.nd rfl (.inl rfl)) pgs_nil)))) (fun _ _ _ _ _ => pts_nil) (fun _ _ _ _ _ => (pv 8))) pa_nil)))
      (pss_one (ps_if (pt_cmpR op_ne (pe_callB (cr_reprAK (K := K) rfl hgd hr) rfl T.b_repr (by decide +kernel) (pa_cons (pe_fn T.f_steps (ok_steps T) (hr.mono (by decide)) (pa_cons (pv 2) (pa_cons (pv 6) (pa_cons (pv 5) pa_nil)))) pa_nil)) (pe_callB (cr_reprAK (K := K) rfl hgd hr) rfl T.b_repr (by decide +kernel) (pa_cons (pv 7) pa_nil)) (nomark _)) (pss_one (ps_ret pe_bl)) pss_nil))))))))
      (pss_one (ps_ret pe_bl))))), ?_⟩
    refine My.i_go (σ' := [some _, none, none, none, none, none, none, none, none, none]) rfl ?_
    repeat walk_at "h"
    refine ⟨p, 0, n, rfl, hP, by omega, fun d H1 L B1 P1 hL1 okL hfew => ?_⟩
    repeat walk_at "h"
    refine ⟨d, _, L, rfl, hL1, okL, fun H2 S2 => ?_⟩
    repeat walk_at "h"
    refine i_mkB okL fun b H3 S3 b0 hB3 => ?_
    have hL3 := hL1.same (S2.trans S3)
    have B3 : But p H H3 := B1.trans (S2.trans S3).but
    have P3 := P1.same (S2.trans S3)
    obtain ⟨l3, ep3⟩ := P3.some
    repeat walk_at "h"
    refine forq_range (lo := 0) (n := 4) (fun i σ' H' => ∃ (w3 w4 w5 w6 w7 w8 w9 : Option V), σ' = [some (.ref p), some (.ref d), some (.ref b), w3, w4, w5, w6, w7, w8, w9] ∧ But p H3 H' ∧ Pot H' p (n + 1002 + 40 * i)) ⟨_, _, _, _, _, _, _, rfl, .refl _, P3.mono (by omega)⟩ ?_ ?_
    · rintro i σ' H4 hi ⟨w3, w4, w5, w6, w7, w8, w9, rfl, B4, P4⟩
      obtain ⟨l4, ep4⟩ := P4.some
      have hL4 := hL3.but ep3 nF B4
      have hB4 := hB3.but ep3 B4
      repeat walk_at "h"
      refine ⟨p, d, _, _, L, rfl, P4, by omega, hL4, nF, okL, hfew, fun t H5 v r B5 P5 ho => ?_⟩
      have hL5 := hL4.but ep4 nF B5
      have hB5 := hB4.but ep4 B5
      have ho5 := ho
      obtain ⟨av, ao, ht, hv, hoo, v0, r0, zv, zr⟩ := ho
      repeat walk_at "h"
      refine i_mkS hv hoo v0 r0 fun so H6 S6 s0 hS6 => ?_
      have hL6 := hL5.same S6
      have hB6 := hB5.same S6
      repeat walk_at "h"
      refine ⟨d, _, L, rfl, hL6, okL, hfew, fun r7 H7 xs ts S7 r70 er7 hts hin h1 h16 => ?_⟩
      have hL7 := hL6.same S7
      have hB7 := hB6.same S7
      have hS7 := hS6.same S7
      have ho7 := (ho5.same S6).same S7
      repeat walk_at "h"
      refine forq_list (xs := xs) (fun j σ' H' => ∃ (u6 u7 : Option V), σ' = [some (.ref p), some (.ref d), some (.ref b), some (.int (0 + i)), some (.ref t), some (.ref so), u6, u7, w8, w9] ∧ Same H7 H') ⟨_, _, rfl, .refl _⟩ (fun j σ' H' _ ⟨_, _, _, S⟩ => .of (S _ _ er7)) ?_ ?_
      · rintro j x σ' H8 hx ⟨u6, u7, rfl, S8⟩
        obtain ⟨dx, hdx, hxd⟩ := dpAll_get (hts.same S8) hx
        rw [List.getElem?_map] at hdx
        obtain ⟨s', hs', rfl⟩ := Option.map_eq_some_iff.mp hdx
        have hsin := hin s' (List.mem_of_getElem? hs')
        have hsho := sho_steps okL s' v r
        repeat walk_at "h"
        refine ⟨d, t, _, L, x, s', v, r, rfl, hL7.same S8, okL, hxd, hsin, ho7.same S8, fun p9 H9 ws S9 p90 e9 hws => ?_⟩
        have hwl : ws.length = (stepsOf L s' v r).length := Paired.length hws
        have hl6 : (stepsOf L s' v r).length ≤ 6 := stepsQ_len okL s' _
        repeat walk_at "h"
        refine lcq_list (xs := ws) (fun A q H' acc => H9 A = none ∧ Same H9 H' ∧ H' A = some (.lst acc) ∧ DpAll K H' acc (((stepsOf L s' v r).take q).map stepD)) (fun A H' S hA e => ⟨hA, S, e, .nil⟩) (fun A q H' acc _ ⟨_, S, _⟩ => .of (S _ _ e9)) ?_ ?_
        · rintro A q y H10 acc hy hal _ ⟨hA, S10, eA, hacc⟩
          obtain ⟨st, hst, ⟨t0, sv, vb, rfl, ht0, hsv, hvb⟩⟩ := L2.paired_get (stepL_same hws S10) hy
          have hq6 : q < 6 := by have := (List.getElem?_eq_some_iff.mp hst).1; omega
          repeat walk_at "h"
          refine ⟨rfl, ?_⟩
          repeat walk_at "h"
          refine turn_end eA hal (by omega) fun H11 B11 e11 => ⟨hA, Same.ext S10 hA B11, e11, ?_⟩
          rw [List.take_add_one, hst, List.map_append]
          exact dpAll_snoc (dpAll_butN eA trivial B11 (noL_map noL_step _) hacc) (dp_butN eA trivial B11 (noL_step _) hsv)
        rintro A H10 acc hal _ ⟨hA, S10, eA, hacc⟩
        rw [hwl, List.take_length] at hacc
        repeat walk_at "h"
        refine i_tupN (.of eA) fun p11 H11 S11 p110 e11 => ?_
        have S811 := S9.trans (S10.trans S11)
        have hd11 : Dp K H11 (.ref p11) (stepsD (stepsOf L s' v r)) := .tup (.of e11) (hacc.same S11)
        repeat walk_at "h"
        refine ⟨b, so, L, x, s', v, r, rfl, hB7.same (S8.trans S811), okL, hxd.same S811, hsin, hS7.same (S8.trans S811), zv, zr, fun p12 H12 S12 p120 hp12 => ?_⟩
        repeat walk_at "h"
        refine i_reprS hp12 hsho (by decide) (by decide) ?_
        repeat walk_at "h"
        refine i_reprS (hd11.same S12) hsho (by decide) (by decide) ?_
        refine i_neSt ?_
        rw [decide_eq_true rfl]
        repeat walk_at "h"
        exact ⟨_, _, rfl, S8.trans (S811.trans S12)⟩
      · rintro σ' H8 ⟨u6, u7, rfl, S8⟩
        have S58 := S6.trans (S7.trans S8)
        repeat walk_at "h"
        exact ⟨_, _, _, _, _, _, _, rfl, B4.trans (B5.trans S58.but), (P5.same S58).mono (by omega)⟩
    · rintro σ' H4 ⟨w3, w4, w5, w6, w7, w8, w9, rfl, B4, P4⟩
      repeat walk_at "h"
      exact k H4 (B3.trans B4) (P4.mono (by omega))
theorem sc_law : FnScope ["_law_script", "_law_place", "_law_pot_here", "_law_lap"] ["_law_script"] (defScope s_law) := ⟨rfl, rfl, rfl, by decide +kernel, rfl, by decide +kernel, by decide +kernel⟩
theorem ok_law (T : Tx K mg) : FnGAt P w K mg base CX0 17 (He.ga K "law") ["_law_script"] (spLaw K) := by
  refine fun_okG T.f_law.f sc_law ?_ (fun cdv A outer s H vs Q E hgd hr h => ?_)
  · walk_at "len"
  · obtain ⟨a, ns, rfl, hS, hn, k⟩ := h
    refine ⟨_, (pss_cons (ps_for PassesOwn.never rfl (pi_list (pe_fn T.f__law_cells (ok__law_cells T) (hr.mono (by decide)) (pa_cons (pv 0) (pa_cons pe_int pa_nil)))) (pg_name (i := 1) sc_law.nd rfl (.inl rfl)) (pss_cons (ps_set (i := 2) sc_law.nd rfl (.inr rfl) (pe_fn T.f__law_pot (ok__law_pot T) (hr.mono (by decide)) (pa_cons (pv 0) (pa_cons (pv 1) pa_nil))))
      (pss_one (ps_if (pt_not (pt_val (pe_callB (cr_all rfl) rfl T.b_all (by decide +kernel) (pa_cons (pe_lc (own := [("_law_lap", 3)]) rfl sc_law.nd (pi_range1 rfl T.b_range (pa_cons pe_int pa_nil)) (blkOk_by (own := [("_law_lap", 3)]) (N := ["_law_script", "_law_place", "_law_pot_here", "_law_lap"]) (sc := defScope s_law) (by decide +kernel)) (fun _ _ _ _ _ => (pg_name (i := 3) sc_law.nd rfl (.inl rfl))) (fun _ _ _ _ _ => pts_nil) (fun _ _ _ _ _ => (pe_fnG T.f__law_right (ok__law_right T) hgd (hr.mono (by decide)) (pa_cons (pv 2) pa_nil)))) pa_nil)))) (pss_one (ps_ret pe_bl)) pss_nil))))
      (pss_one (ps_ret pe_bl))), ?_⟩
    refine My.i_go (σ' := [some _, none, none, none]) rfl ?_
    repeat walk_at "h"
    refine ⟨_, _, _, rfl, hS, hn, by omega, fun q H1 j hj S1 hq0 hq => ?_⟩
    repeat walk_at "h"
    have hS1 := S1.seq hS
    refine forq_list (xs := rgV 0 j) (fun i σ H' => ∃ v2 v3 v4 : Option V, σ = [some (.ref a), v2, v3, v4] ∧ Same H1 H') ⟨_, _, _, rfl, .refl _⟩ ?_ ?_ ?_
    · rintro i σ H' hi ⟨v2, v3, v4, rfl, S⟩
      exact .of (S _ _ hq)
    · rintro i x σ H' hx ⟨v2, v3, v4, rfl, S⟩
      obtain ⟨rfl, hi⟩ := rgV_at hx
      repeat walk_at "h"
      refine ⟨_, _, _, rfl, S.seq hS1, by omega, by omega, fun p H2 S2 hp P => ?_⟩
      have SS := S.trans S2
      have hp1 := S.free hp
      repeat walk_at "h"
      refine lcq_range (n := 2) (fun A i H' acc => Same H1 H' ∧ Pot H' p (1200 * i) ∧ p ≠ A ∧ H1 A = none ∧ acc = List.replicate i (.bl true)) (fun A H' S h e => ⟨SS.trans S, (P.same S).mono (by omega), P.ne h, SS.free h, rfl⟩) ?_ ?_
      · rintro A i H3 acc hi hlen hA ⟨S3, P3, hne, hA1, rfl⟩
        repeat walk_at "h"
        refine ⟨rfl, ?_⟩
        repeat walk_at "h"
        refine ⟨_, _, rfl, P3, by omega, fun H4 B4 P4 => ?_⟩
        refine turn_end (B4 _ _ hne.symm hA) hlen (by omega) fun H5 B5 e5 => ⟨fun c o z => B5 c o (ne_of_none z hA1) (B4 c o (ne_of_none z hp1) (S3 c o z)), (P4.butA hne B5).mono (by omega), hne, hA1, List.replicate_succ'.symm⟩
      · rintro A H3 acc hlen hA ⟨S3, P3, hne, hA1, rfl⟩
        repeat walk_at "h"
        refine i_all (bs := List.replicate 2 true) (.of hA) ?_
        repeat walk_at "h"
        refine iteF ?_
        repeat walk_at "h"
        exact ⟨_, _, _, rfl, S3⟩
    · rintro σ H' ⟨v2, v3, v4, rfl, S⟩
      repeat walk_at "h"
      exact k H'
end
end Lw
open PySem PySem.W PySem.Calls PyProof.Rows
theorem PySem.Challenge.cw_rangehunt_k11_which_steps_are_possible_holds : PySem.Challenge.rw_rangehunt_k11_which_steps_are_possible.Holds := by
  w_on; o_law
  refine HandSHeadRun.head_imp (r := OpenLaw.row PySem.Challenge.rw_rangehunt_k11_which_steps_are_possible) (q := view (OpenLaw.row PySem.Challenge.rw_rangehunt_k11_which_steps_are_possible).prog [91]) (H := My.hookA Lw.as0 Lw.ex Lw.ds) (ob := My.obA Lw.as0 Lw.ex Lw.ds) (M := 6000) (loose := Lw.loose) (d := HandSHeadRun.topDef (OpenLaw.row PySem.Challenge.rw_rangehunt_k11_which_steps_are_possible).prog 91) (kwd := []) My.obA_eq
    Lw.run (by kernel_rfl) (by kernel_rfl) (by kernel_rfl) (by rfl) (by first | assumption | decide +kernel) (by decide +kernel) ⟨rfl, rfl, rfl, rfl, rfl, by decide +kernel⟩ ?hw ?hc
  case hw => w_witness2
  case hc =>
    refine My.walk_ofG (l := PySem.Challenge.rw_rangehunt_k11_which_steps_are_possible) (n := 63) (k := 17) (x := "_law_script") rfl (by decide) (by kernel_rfl) ⟨rfl, by decide, by decide⟩ ?F
    intro w mg fa h Y G hmg0
    obtain ⟨K, KX, c⟩ := Y
    have T := Lw.tx KX G c
    have hmg : mg ("law" : PySem.Str) = some (.ref fa) := by
      have e : (HandSHeadRun.topDef (OpenLaw.row PySem.Challenge.rw_rangehunt_k11_which_steps_are_possible).prog 91).name = ("law" : PySem.Str) := by kernel_rfl
      rw [← e]
      exact hmg0
    have e := hmg.symm.trans T.f_law.m
    cases e
    exact ⟨K, _, My.spLaw K, KX, Lw.law_fd T, fun H a ns hn _ hS => ⟨a, ns, rfl, hS, hn, fun _ => rfl⟩, fun base _ _ => Lw.ok_law T⟩

