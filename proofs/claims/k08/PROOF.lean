import PyProof.Rows.All
import Wide.All
import OpenK.AllK
import Wide.FinOn
import HandS.ForMost
import HandS.Exc
import HandS.TryOnly
import HandS.WordsExc
import HandS.Wide
import HandS.Gcd
import HandS.Property
import HandS.Conv
import HandS.HeadHook1
import HandS.HeadHook4
import HandS.HeadWalk
import HandS.HeadEnd
import HandS.Head2
import HandS.IsInst
import HandS.NoneIn
import HandS.Style
import KE.KOpsOwn
import HandS.Head3
import PyProof.ReprLen
import HandS.ExcInit
import HandS.ExcField
import HandS.ExcIs
import HandS.Walk
import PySem.Challenge.RW_rangehunt_k08_errors_and_what_they_keep
set_option Elab.async false
set_option linter.all false
set_option maxRecDepth 100000
set_option maxHeartbeats 0
/-! own layer, 1: one step at a time through a reading -/
namespace My
open PySem PySem.Spec PyProof.Rows L2
/-- a new tuple, a new list -/
def NewT (xs : List V) (H : Hp) (Q : VK) : Prop := xs.length ≤ sizeLine ∧ ∀ p, H p = none → Q (.ref p) (upd H p (.tup xs))
def NewL (xs : List V) (H : Hp) (Q : VK) : Prop := xs.length ≤ sizeLine ∧ ∀ p, H p = none → Q (.ref p) (upd H p (.lst xs))
section
variable {K : PySem.W.Frag} {σ : L2.St} {H H' : Hp} {ta tb tc te : TE} {t u : TS} {tt : TT} {D : Ends} {x y z v : V} {Q : VK} {QA : List V → Hp → Prop} {QB : Bool → Hp → Prop} {R : L2.St → Hp → Prop} {i : Nat}
theorem i_go {σ' : L2.St} (e : σ = σ') (h : t D σ' H) : t D σ H := e ▸ h
/-! ### statements -/
theorem i_seq (h : t { D with nx := u D } σ H) : tSeq t u D σ H := h
theorem i_next (h : D.nx σ H) : tNext D σ H := h
theorem i_asg {g : TG} (h : te σ H fun x H1 => g x σ H1 D.nx) : tAsg te g D σ H := h
theorem i_ret (h : te σ H D.rt) : tRet te D σ H := h
theorem i_retN (h : D.rt .non H) : tRetN D σ H := h
theorem i_drop (h : te σ H fun _ H1 => D.nx σ H1) : tDrop te D σ H := h
theorem i_if (h : tt σ H fun b H1 => if b = true then t D σ H1 else u D σ H1) : tIfS tt t u D σ H := h
theorem i_gname (h : R (σ.set i (some v)) H) : gName i v σ H R := h
theorem i_par {ta : TA} {j : Nat} (h : ta σ H fun vs H1 => ∃ v w, vs = [v, w] ∧ D.nx ((σ.set i (some v)).set j (some w)) H1) : tPar i j ta D σ H := h
/-! ### expressions -/
theorem i_var (e : σ[i]? = some (some v)) (h : Q v H) : tVar i σ H Q := ⟨v, e, h⟩
theorem i_c (h : Q v H) : tC v σ H Q := h
theorem i_op {r : R2} (h : ta σ H fun x H1 => tb σ H1 fun y H2 => r x y H2 Q) : tOp r ta tb σ H Q := h
theorem i_un {r : V → Hp → VK → Prop} (h : ta σ H fun x H1 => r x H1 Q) : tUn r ta σ H Q := h
theorem i_I0 {g : Int → Int → V} {a b : Int} (h : Q (g a b) H) : rI0 g (.int a) (.int b) H Q := ⟨a, b, rfl, rfl, h⟩
theorem i_I {C : Int → Int → Prop} {g : Int → Int → V} {a b : Int} (c : C a b) (h : Q (g a b) H) : rI C g (.int a) (.int b) H Q := ⟨a, b, rfl, rfl, c, h⟩
theorem i_U {g : Int → V} {a : Int} (h : Q (g a) H) : rU g (.int a) H Q := ⟨a, rfl, h⟩
theorem i_call {sp : Sp} {dvs : List V} {E : XK} {ta : TA} (h : ta σ H fun vs H1 => sp (vs ++ dvs) H1 Q E) : tCall sp dvs E ta σ H Q := h
theorem i_cb {r : List V → Hp → VK → Prop} {ta : TA} (h : ta σ H fun vs H1 => r vs H1 Q) : tCB r ta σ H Q := h
theorem i_nil (h : QA [] H) : tNil σ H QA := h
theorem i_cons {tr : TA} (h : te σ H fun x H1 => tr σ H1 fun xs H2 => QA (x :: xs) H2) : tCons te tr σ H QA := h
theorem i_tup {ta : TA} (h : ta σ H fun xs H1 => NewT xs H1 Q) : tTup ta σ H Q := h
theorem i_lst {ta : TA} (h : ta σ H fun xs H1 => NewL xs H1 Q) : tLst ta σ H Q := h
theorem i_ife (h : tt σ H fun c H1 => if c = true then ta σ H1 Q else tb σ H1 Q) : tIf tt ta tb σ H Q := h
theorem i_test (h : te σ H fun x H' => ∃ k, x = .bl k ∧ QB k H') : tTest te σ H QB := h
theorem i_tB (h : te σ H fun x H' => ∃ k, x = .bl k ∧ QB k H') : tB te σ H QB := h
theorem i_bl {k : Bool} (h : QB k H) : ∃ k', V.bl k = .bl k' ∧ QB k' H := ⟨k, rfl, h⟩
theorem i_not (h : tt σ H fun c H1 => QB (!c) H1) : tNot tt σ H QB := h
theorem i_and {tu : TT} (h : tt σ H fun c H1 => if c = true then tu σ H1 QB else QB false H1) : tAnd tt tu σ H QB := h
theorem i_or {tu : TT} (h : tt σ H fun c H1 => if c = true then QB true H1 else tu σ H1 QB) : tOr tt tu σ H QB := h
theorem i_andV (h : ta σ H fun x H1 => ∃ c, x = .bl c ∧ if c = true then tb σ H1 Q else Q (.bl false) H1) : tAndV ta tb σ H Q := h
theorem i_orV (h : ta σ H fun x H1 => ∃ c, x = .bl c ∧ if c = true then Q (.bl true) H1 else tb σ H1 Q) : tOrV ta tb σ H Q := h
theorem i_notV (h : ta σ H fun x H1 => ∃ c, x = .bl c ∧ Q (.bl (!c)) H1) : tNotV ta σ H Q := h
theorem i_blv {k : Bool} {P : Bool → Prop} (h : P k) : ∃ c, V.bl k = .bl c ∧ P c := ⟨k, rfl, h⟩
theorem i_fld {a C dx : Addr} {fs : List (Str × V)} {f : Str} (h : ta σ H fun x H1 => ∃ a C dx fs v, x = .ref a ∧ H1 a = some (.ins C dx fs) ∧ Cls K C ∧ NoAttr K C f ∧ fs.lookup f = some v ∧ Q v H1) : tFld K ta f σ H Q := h
theorem i_two {P : V → V → Prop} (h : P x y) : ∃ v w, [x, y] = [v, w] ∧ P v w := ⟨x, y, rfl, h⟩
/-- ints by the one-argument conversions -/
theorem i_ixL {p : Addr} {xs : List V} {n : Int} (hl : SqL K H p xs) (ha : atI xs n = some v) (h : Q v H) : rIxL K (.ref p) (.int n) H Q := ⟨p, xs, n, v, rfl, rfl, hl, ha, h⟩
theorem i_ixT {p : Addr} {xs : List V} {n : Int} (hl : SqT K H p xs) (ha : atI xs n = some v) (h : Q v H) : rIxT K (.ref p) (.int n) H Q := ⟨p, xs, n, v, rfl, rfl, hl, ha, h⟩
end
/-! ### built-in calls by name -/
section
variable {X : Cx}
def rInt1 : List V → Hp → VK → Prop := fun xs H Q => (∃ i, xs = [.int i] ∧ Q (.int i) H) ∨ ∃ k, xs = [.bl k] ∧ Q (.int (if k then 1 else 0)) H
theorem cr_int1 : CallR X (.type "int") rInt1 := call_int1
def rAbs : List V → Hp → VK → Prop := fun xs H Q => ∃ i, xs = [.int i] ∧ Q (.int (if i < 0 then -i else i)) H
theorem cr_abs : CallR X (.builtin "abs") rAbs := call_abs
def rMax2 : List V → Hp → VK → Prop := fun xs H Q => ∃ i j, xs = [.int i, .int j] ∧ Q (.int (if j > i then j else i)) H
theorem cr_max2 (hc : X.calm = true) : CallR X (.builtin "max") rMax2 := call_max2 hc
def rMin2 : List V → Hp → VK → Prop := fun xs H Q => ∃ i j, xs = [.int i, .int j] ∧ Q (.int (if j < i then j else i)) H
theorem cr_min2 (hc : X.calm = true) : CallR X (.builtin "min") rMin2 := call_min2 hc
def rLenA (K : PySem.W.Frag) : List V → Hp → VK → Prop := fun xs H Q => ∃ x n, xs = [x] ∧ LenV K x H n ∧ Q (.int n) H
theorem cr_len : CallR X (.builtin "len") (rLenA X.K) := call_len
def rListOf (K : PySem.W.Frag) : List V → Hp → VK → Prop := fun xs H Q => ∃ p ys, xs = [.ref p] ∧ (SqL K H p ys ∨ SqT K H p ys) ∧ ∀ l, H l = none → Q (.ref l) (upd H l (.lst ys))
theorem cr_listOf : CallR X (.type "list") (rListOf X.K) := call_list_of
/-- a power of two ints -/
def CPowW (i j : Int) : Prop := 0 ≤ j ∧ (Builtin.Int.intBits i : Int) * j ≤ 2 ^ 27
theorem op_powW : OpR X (binaryOp .Pow) (rI CPowW fun i j => .int (i ^ j.toNat)) := opI fun _ _ _ _ _ _ _ hc q => pow_int hc.1 hc.2 q
end
section
variable {K : PySem.W.Frag} {H : Hp} {Q : VK} {v : V} {xs : List V}
theorem i_int1 {a : Int} (h : Q (.int a) H) : rInt1 [.int a] H Q := .inl ⟨a, rfl, h⟩
theorem i_int1b {k : Bool} (h : Q (.int (if k then 1 else 0)) H) : rInt1 [.bl k] H Q := .inr ⟨k, rfl, h⟩
theorem i_abs {a : Int} (h : Q (.int (if a < 0 then -a else a)) H) : rAbs [.int a] H Q := ⟨a, rfl, h⟩
theorem i_max2 {a b : Int} (h : Q (.int (if b > a then b else a)) H) : rMax2 [.int a, .int b] H Q := ⟨a, b, rfl, h⟩
theorem i_min2 {a b : Int} (h : Q (.int (if b < a then b else a)) H) : rMin2 [.int a, .int b] H Q := ⟨a, b, rfl, h⟩
theorem i_lenL {p : Addr} (hl : SqL K H p xs) (h : Q (.int xs.length) H) : rLenA K [.ref p] H Q := ⟨.ref p, xs.length, rfl, .inl ⟨xs, hl, rfl⟩, h⟩
theorem i_lenT {p : Addr} (hl : SqT K H p xs) (h : Q (.int xs.length) H) : rLenA K [.ref p] H Q := ⟨.ref p, xs.length, rfl, .inr ⟨xs, hl, rfl⟩, h⟩
theorem i_ixsL {p : Addr} {n : Int} (hl : SqL K H p xs) (ha : atI xs n = some v) (h : Q v H) : rIx K (.ref p) (.int n) H Q := .inl ⟨p, xs, n, v, rfl, rfl, hl, ha, h⟩
theorem i_ixsT {p : Addr} {n : Int} (hl : SqT K H p xs) (ha : atI xs n = some v) (h : Q v H) : rIx K (.ref p) (.int n) H Q := .inr (.inl ⟨p, xs, n, v, rfl, rfl, hl, ha, h⟩)
/-! ### new objects: the heap behind is a new letter -/
theorem i_new {o : HO} (h : ∀ p H1, Same H H1 → H p = none → H1 p = some o → Q (.ref p) H1) : ∀ p, H p = none → Q (.ref p) (upd H p o) := fun p hp =>
  h p _ (fun b u e => by rw [upd_ne (ne_of_none e hp)]; exact e) hp upd_same
theorem i_szT (z : xs.length ≤ sizeLine) (h : ∀ p H1, Same H H1 → H p = none → H1 p = some (.tup xs) → Q (.ref p) H1) : NewT xs H Q := ⟨z, i_new h⟩
theorem i_szL (z : xs.length ≤ sizeLine) (h : ∀ p H1, Same H H1 → H p = none → H1 p = some (.lst xs) → Q (.ref p) H1) : NewL xs H Q := ⟨z, i_new h⟩
/-! ### frames -/
theorem _root_.L2.Same.seqT {K : PySem.W.Frag} {a : Addr} {H H' : Hp} {xs : List V} (e : L2.Same H H') (h : SqT K H a xs) : SqT K H' a xs := by
  rcases h with (h | ⟨o, h⟩) | h
  · exact .inl (.inl (e _ _ h))
  · exact .inl (.inr ⟨o, e _ _ h⟩)
  · exact .inr h

/-- all but what stands at p is as it was -/
def But (p : Addr) (H H' : Hp) : Prop := ∀ b o, b ≠ p → H b = some o → H' b = some o
theorem _root_.L2.Same.but {p : Addr} {H H' : Hp} (s : L2.Same H H') : But p H H' := fun b o _ e => s b o e
theorem But.refl {p : Addr} (H : Hp) : But p H H := fun _ _ _ h => h
theorem But.trans {p : Addr} {H H1 H2 : Hp} (a : But p H H1) (b : But p H1 H2) : But p H H2 := fun c o n h => b c o n (a c o n h)
theorem But.upd {p : Addr} {H : Hp} {o : HO} : But p H (upd H p o) := fun b u n h => by rw [upd_ne n]; exact h
theorem But.seq {K : PySem.W.Frag} {p a : Addr} {H H' : Hp} {xs : List V} (e : But p H H') (n : a ≠ p) (h : SqL K H a xs) : SqL K H' a xs := by
  rcases h with (h | ⟨o, h⟩) | h
  · exact .inl (.inl (e _ _ n h))
  · exact .inl (.inr ⟨o, e _ _ n h⟩)
  · exact .inr h
theorem But.seqT {K : PySem.W.Frag} {p a : Addr} {H H' : Hp} {xs : List V} (e : But p H H') (n : a ≠ p) (h : SqT K H a xs) : SqT K H' a xs := by
  rcases h with (h | ⟨o, h⟩) | h
  · exact .inl (.inl (e _ _ n h))
  · exact .inl (.inr ⟨o, e _ _ n h⟩)
  · exact .inr h
theorem But.free {p l : Addr} {H H' : Hp} (e : But p H H') (n : l ≠ p) (h : H' l = none) : H l = none := by
  cases q : H l with
  | none => rfl
  | some o =>
    rw [e l o n q] at h
    cases h
theorem atI_mem {xs : List V} {i : Int} (h0 : 0 ≤ i) (h1 : i < (xs.length : Int)) : ∃ v, atI xs i = some v ∧ v ∈ xs := by
  obtain ⟨j, rfl⟩ : ∃ j : Nat, i = (j : Int) := ⟨i.toNat, by omega⟩
  have hj : j < xs.length := by omega
  exact ⟨xs[j], atI_nat (List.getElem?_eq_getElem hj), List.getElem_mem hj⟩
theorem i_sub {to ti : TE} {t : TSet} {σ : L2.St} {R : L2.St → Hp → Prop} (h : to σ H fun o H1 => ti σ H1 fun i H2 => t o i v H2 fun H3 => R σ H3) : gSub to ti t v σ H R := h
theorem i_setL {p : Addr} {n : Int} {j : Nat} {R : Hp → Prop} (hl : H p = some (.lst xs)) (hj : ixN xs.length n = some j) (h : ∀ H1, But p H H1 → H1 p = some (.lst (xs.set j v)) → R H1) : rSetL (.ref p) (.int n) v H R :=
  ⟨p, xs, n, j, rfl, rfl, hl, hj, h _ But.upd upd_same⟩
theorem i_bm {T : String} {r : V → List V → Hp → VK → Prop} {to : TE} {t : TA} {σ : L2.St} (h : to σ H fun x H1 => tyV K T x H1 ∧ t σ H1 fun xs H2 => r x xs H2 Q) : tBM K T r to t σ H Q := h
theorem i_bm0 {T : String} {r : V → List V → Hp → VK → Prop} {to : TE} {σ : L2.St} (h : to σ H fun x H1 => tyV K T x H1 ∧ r x [] H1 Q) : tBM0 K T r to σ H Q := h
theorem i_tyL {p : Addr} {P : Prop} (hl : SqL K H p xs) (h : P) : tyV K "list" (.ref p) H ∧ P := ⟨.inl ⟨rfl, xs, hl⟩, h⟩
theorem i_app {l : Addr} {y : V} (hl : H l = some (.lst xs)) (hz : xs.length < sizeLine) (h : ∀ H1, But l H H1 → H1 l = some (.lst (xs ++ [y])) → Q .non H1) : rAppend (.ref l) [y] H Q := ⟨l, xs, y, rfl, rfl, hl, hz, h _ But.upd upd_same⟩
def NewR (a b : Int) (H : Hp) (Q : VK) : Prop := RgOk a b ∧ ∀ q, H q = none → Q (.ref q) (upd H q (.lst (rgV a b)))
theorem i_lstRg {t : L2.St → Hp → (Int → Int → Hp → Prop) → Prop} {σ : L2.St} (h : t σ H fun a b H1 => NewR a b H1 Q) : tLstRg t σ H Q := h
theorem i_rg1 {ta : TE} {σ : L2.St} {QQ : Int → Int → Hp → Prop} (h : ta σ H fun x H1 => ∃ n, x = .int n ∧ QQ 0 n H1) : tRg1 ta σ H QQ := h
theorem i_in {n : Int} {P : Int → Prop} (h : P n) : ∃ m, V.int n = .int m ∧ P m := ⟨n, rfl, h⟩
theorem i_newR {a b : Int} (z : RgOk a b) (h : ∀ p H1, Same H H1 → H p = none → H1 p = some (.lst (rgV a b)) → Q (.ref p) H1) : NewR a b H Q := ⟨z, i_new h⟩
/-- both ways of an expression's if, joined by what is told of the value -/
theorem i_join {c : Bool} {ta tb : TE} {σ : L2.St} (Pr : V → Prop) (h1 : c = true → ∀ Q : VK, (∀ v, Pr v → Q v H) → ta σ H Q) (h2 : c = false → ∀ Q : VK, (∀ v, Pr v → Q v H) → tb σ H Q) (h : ∀ v, Pr v → Q v H) : if c = true then ta σ H Q else tb σ H Q := by
  cases c with
  | true => exact h1 rfl Q h
  | false => exact h2 rfl Q h
theorem ite_nt {A B : Prop} (h : B) : if (!true) = true then A else B := h
theorem ite_nf {A B : Prop} (h : A) : if (!false) = true then A else B := h
theorem i_gcd {a b : Int} (h : Q (.int ((Nat.gcd a.natAbs b.natAbs : Nat) : Int)) H) : rGcd [.int a, .int b] H Q := ⟨a, b, rfl, h⟩
theorem dec_intV {a b : Int} : decide (V.int a = V.int b) = decide (a = b) := by
  rw [decide_eq_decide]
  exact ⟨fun z => V.int.inj z, fun z => z ▸ rfl⟩
theorem i_eqI {a b : Int} (h : Q (.bl (decide (a = b))) H) : rEq (.int a) (.int b) H Q := ⟨rfl, by rw [dec_intV]; exact h⟩
theorem i_neI {a b : Int} (h : Q (.bl (!decide (a = b))) H) : rNe (.int a) (.int b) H Q := ⟨rfl, by rw [dec_intV]; exact h⟩
theorem i_eqT {a b : Int} (e : a = b) (h : Q (.bl true) H) : rEq (.int a) (.int b) H Q := i_eqI (by rw [decide_eq_true e]; exact h)
theorem i_eqF {a b : Int} (e : ¬ a = b) (h : Q (.bl false) H) : rEq (.int a) (.int b) H Q := i_eqI (by rw [decide_eq_false e]; exact h)
theorem i_neF {a b : Int} (e : a = b) (h : Q (.bl false) H) : rNe (.int a) (.int b) H Q := i_neI (by rw [decide_eq_true e]; exact h)
theorem i_neT {a b : Int} (e : ¬ a = b) (h : Q (.bl true) H) : rNe (.int a) (.int b) H Q := i_neI (by rw [decide_eq_false e]; exact h)
/-- a comparison of ints whose answer is known -/
theorem i_leT {a b : Int} {p : Int → Int → Bool} (e : p a b = true) (h : Q (.bl true) H) : rI0 (fun i j => V.bl (p i j)) (.int a) (.int b) H Q := ⟨a, b, rfl, rfl, by show Q (V.bl (p a b)) H; rw [e]; exact h⟩
theorem i_leF {a b : Int} {p : Int → Int → Bool} (e : p a b = false) (h : Q (.bl false) H) : rI0 (fun i j => V.bl (p i j)) (.int a) (.int b) H Q := ⟨a, b, rfl, rfl, by show Q (V.bl (p a b)) H; rw [e]; exact h⟩
theorem ite_d {c A B : Prop} [Decidable c] (hc : c) (h : A) : if decide c = true then A else B := by rw [decide_eq_true hc]; exact iteT h
theorem ite_dn {c A B : Prop} [Decidable c] (hc : ¬ c) (h : B) : if decide c = true then A else B := by rw [decide_eq_false hc]; exact iteF h
theorem ite_nd {c A B : Prop} [Decidable c] (hc : c) (h : B) : if (!decide c) = true then A else B := by rw [decide_eq_true hc]; exact iteF h
theorem ite_ndn {c A B : Prop} [Decidable c] (hc : ¬ c) (h : A) : if (!decide c) = true then A else B := by rw [decide_eq_false hc]; exact iteT h
theorem ite_b {b : Bool} {A B : Prop} (h1 : b = true → A) (h2 : b = false → B) : if b = true then A else B := by
  cases b with
  | true => exact h1 rfl
  | false => exact h2 rfl
theorem ite_nb {b : Bool} {A B : Prop} (h1 : b = false → A) (h2 : b = true → B) : if (!b) = true then A else B := by
  cases b with
  | true => exact h2 rfl
  | false => exact h1 rfl
end
end My

/-! own layer, 2: where defs, methods, properties, operators stand; their calls -/
namespace My
open PySem PySem.Spec PyProof.Rows L2
def fdOf (K : PySem.W.Frag) (a : Addr) : FuncData := match K.lookup a with
  | some ⟨_, _, .func fd, _⟩ => fd
  | _ => ⟨"", "", ⟨[], [], none, [], [], none, []⟩, .stmts [], ⟨.function, [], false, false, []⟩, 0, [], .none, .none, .none, .none, none, .none, .none, 0⟩
/-- the getter of the property at p -/
def gtOf (K : PySem.W.Frag) (p : Addr) : Addr := match PySem.W.recIn K p "property" with
  | some (.ref g :: _) => g
  | _ => 0
/-- a module's def -/
structure GFn (K : PySem.W.Frag) (mg : Str → Option Value) (x : Str) (st : Stmt) (ps : List Str) : Prop where
  m : mg x = some (.ref (He.ga K x))
  f : Fun K x x st (He.ga K x) (fdOf K (He.ga K x))
  b : L2.Binds K (fdOf K (He.ga K x)) ps []
/-- a method of the class at C -/
structure GMe (K : PySem.W.Frag) (C : Addr) (m qual : Str) (st : Stmt) (ps : List Str) : Prop where
  h : Meth K C m (He.ma K C m)
  f : Fun K m qual st (He.ma K C m) (fdOf K (He.ma K C m))
  b : L2.Binds K (fdOf K (He.ma K C m)) ps []
/-- a property -/
structure GPr (K : PySem.W.Frag) (C : Addr) (m qual : Str) (st : Stmt) : Prop where
  p : PropOf K C m (He.ma K C m) (gtOf K (He.ma K C m))
  f : Fun K m qual st (gtOf K (He.ma K C m)) (fdOf K (gtOf K (He.ma K C m)))
  b : L2.Binds K (fdOf K (gtOf K (He.ma K C m))) ["self"] []
/-- a class that is made -/
structure GMk (K : PySem.W.Frag) (mg : Str → Option Value) (x : Str) : Prop where
  m : mg x = some (.ref (He.ga K x))
  k : Mk K (He.ga K x) (He.ma K (He.ga K x) "__init__")
abbrev FnAt (P : Program) (w : World) (K : PySem.W.Frag) (mg : Str → Option Value) (base : Heap) (CX : CXT) (k : Nat) (a : Addr) (ps : List Str) (sp : Sp) : Prop := FnOk P w K mg base CX k a (fdOf K a) ps sp
section
variable {X : Cx} {CX : CXT} {k : Nat} {x m qual : Str} {st : Stmt} {ps : List Str} {sp : Sp} {p pos apos : Pos} {e o : Expr} {es : List Expr} {t : TA} {ta : TE} {C : Addr}
theorem pe_fn (g : GFn X.K X.mg x st ps) (F : FnAt X.prog X.w X.K X.mg X.base CX k (He.ga X.K x) ps sp) (hr : Room k X.A) (ha : PA X (e :: es) t) (hx : Passes CX X E0 := by first | exact pass0 | exact passL) (hg : Gl X x := by rfl)
    (hdb : (x == ("__debug__" : Str)) = false := by decide) (he : starEach (e :: es) X.env = (false, eval e X.env) :: starEach es X.env := by rfl) (hpl : (backTo pos (starEach es X.env)).any (·.1) = false := by rfl) :
    PE X (.Call (.Name x p) (e :: es) [] pos) (tCall sp [] E0 t) := pe_call F hr hg g.m g.f.kp g.b .nil hx ha hdb he hpl
theorem pe_fnX {E : XK} (g : GFn X.K X.mg x st ps) (F : FnAt X.prog X.w X.K X.mg X.base CX k (He.ga X.K x) ps sp) (hr : Room k X.A) (hx : Passes CX X E) (ha : PA X (e :: es) t) (hg : Gl X x := by rfl)
    (hdb : (x == ("__debug__" : Str)) = false := by decide) (he : starEach (e :: es) X.env = (false, eval e X.env) :: starEach es X.env := by rfl) (hpl : (backTo pos (starEach es X.env)).any (·.1) = false := by rfl) :
    PE X (.Call (.Name x p) (e :: es) [] pos) (tCall sp [] E t) := pe_call F hr hg g.m g.f.kp g.b .nil hx ha hdb he hpl
theorem pe_me {pl : Sem Bool} (c : Cls X.K C) (g : GMe X.K C m qual st ps) (F : FnAt X.prog X.w X.K X.mg X.base CX k (He.ma X.K C m) ps sp) (hr : Room k X.A) (ho : PE X o ta) (ha : PA X (e :: es) t) (hx : Passes CX X E0 := by first | exact pass0 | exact passL)
    (hst : starEach (e :: es) X.env = (false, eval e X.env) :: starEach es X.env := by rfl) (hpl : (backTo pos (starEach es X.env)).any (·.1) = false := by rfl)
    (ht : eval (.Call (.Attribute o m apos) (e :: es) [] pos) X.env = (do
      let ov ← eval o X.env
      standAt apos.atName
      let (f, first) ← holding [ov] (getMethod ov m pl)
      callWith pos f first (backTo pos (starEach (e :: es) X.env)) (backToKw pos (keywordEach [] X.env))) := by rfl) :
    PE X (.Call (.Attribute o m apos) (e :: es) [] pos) (tMeth C m sp [] E0 ta t) := pe_meth ho c g.h F hr g.b .nil hx ha hst hpl ht
theorem pe_me0 {pl : Sem Bool} (c : Cls X.K C) (g : GMe X.K C m qual st ps) (F : FnAt X.prog X.w X.K X.mg X.base CX k (He.ma X.K C m) ps sp) (hr : Room k X.A) (ho : PE X o ta) (hx : Passes CX X E0 := by first | exact pass0 | exact passL)
    (ht : eval (.Call (.Attribute o m apos) [] [] pos) X.env = (do
      let ov ← eval o X.env
      standAt apos.atName
      let (f, first) ← holding [ov] (getMethod ov m pl)
      callWith pos f first (backTo pos (starEach [] X.env)) (backToKw pos (keywordEach [] X.env))) := by rfl) :
    PE X (.Call (.Attribute o m apos) [] [] pos) (tMeth C m sp [] E0 ta tNil) := pe_meth0 ho c g.h F hr g.b .nil hx ht
theorem pe_pr (c : Cls X.K C) (g : GPr X.K C m qual st) (F : FnAt X.prog X.w X.K X.mg X.base CX k (gtOf X.K (He.ma X.K C m)) ["self"] sp) (hr : Room (k + 1) X.A) (ho : PE X o ta) (hx : Passes CX X.nox E0 := by first | exact pass0 | exact passL)
    (hab : attributeBase o m X.env (eval o X.env) = eval o X.env := by rfl) : PE X (.Attribute o m pos) (tProp C sp [] E0 ta) := pe_prop ho c g.p F hr g.b .nil hx hab
theorem pe_mk (g : GMk X.K X.mg x) {fm : GMe X.K (He.ga X.K x) "__init__" qual st ps} (F : FnAt X.prog X.w X.K X.mg X.base CX k (He.ma X.K (He.ga X.K x) "__init__") ps sp) (hr : Room (k + 1) X.A) (ha : PA X (e :: es) t) (hx : Passes CX X E0 := by first | exact pass0 | exact passL) (hg : Gl X x := by rfl)
    (hdb : (x == ("__debug__" : Str)) = false := by decide) (he : starEach (e :: es) X.env = (false, eval e X.env) :: starEach es X.env := by rfl) (hpl : (backTo pos (starEach es X.env)).any (·.1) = false := by rfl) :
    PE X (.Call (.Name x p) (e :: es) [] pos) (tMake (He.ga X.K x) sp [] E0 t) := pe_make g.k F hr hg g.m fm.b .nil hx ha hdb he hpl
theorem pe_mkK {K : PySem.W.Frag} (hK : X.K = K) (g : GMk K X.mg x) {fm : GMe K (He.ga K x) "__init__" qual st ps} (F : FnAt X.prog X.w K X.mg X.base CX k (He.ma K (He.ga K x) "__init__") ps sp) (hr : Room (k + 1) X.A) (ha : PA X (e :: es) t) (hx : Passes CX X E0 := by first | exact pass0 | exact passL) (hg : Gl X x := by rfl)
    (hdb : (x == ("__debug__" : Str)) = false := by decide) (he : starEach (e :: es) X.env = (false, eval e X.env) :: starEach es X.env := by rfl) (hpl : (backTo pos (starEach es X.env)).any (·.1) = false := by rfl) :
    PE X (.Call (.Name x p) (e :: es) [] pos) (tMake (He.ga K x) sp [] E0 t) := by
  subst hK
  exact pe_mk g (fm := fm) F hr ha hx hg hdb he hpl
/-- what an own operator asks of the class -/
structure GOp (K : PySem.W.Frag) (C : Addr) (m qual : Str) (st : Stmt) : Prop where
  at_ : PySem.W.findIn K (.ref C) m = some (some (.ref (He.ma K C m)))
  fn : PySem.W.isFn K (.ref (He.ma K C m)) = true
  f : Fun K m qual st (He.ma K C m) (fdOf K (He.ma K C m))
  b : L2.Binds K (fdOf K (He.ma K C m)) ["self", "other"] []
/-- x op y of two instances of one class: the method's promise -/
def rOwn (C : Addr) (sp : Sp) : R2 := fun x y H Q => ∃ a b dx dy fs gs, x = .ref a ∧ y = .ref b ∧ H a = some (.ins C dx fs) ∧ H b = some (.ins C dy gs) ∧ sp [x, y] H Q E0
theorem back_of {pins : List (Addr × Obj)} {σ : L2.St} {Q : VK} {u : Value} {s : Shared} (h : EP X pins σ Q u s) : PySem.W.CmpBack (EP X pins σ Q) u s := by
  obtain ⟨v, H', I, r, q⟩ := h
  cases u with
  | notImplemented =>
    exfalso
    cases v with
    | non => cases r
    | bl _ => cases r
    | int _ => obtain ⟨t, z⟩ := r; cases z
    | str _ => obtain ⟨t, z⟩ := r; cases z
    | byt _ => obtain ⟨t, z⟩ := r; cases z
    | flt _ => obtain ⟨t, z⟩ := r; cases z
    | ref _ => cases r
    | ty _ => cases r
  | _ => exact ⟨v, H', I, r, q⟩
theorem op_own {op : Operator} (g : GOp X.K C m qual st) (hm : PySem.dunder op.info.2 = m) (F : FnAt X.prog X.w X.K X.mg X.base CX k (He.ma X.K C m) ["self", "other"] sp) (hr : Room k X.A) (hc : PySem.W.selfFirst X.K C = true)
    (hx : Passes CX X E0 := by first | exact pass0 | exact passL) : OpR X (binaryOp op) (rOwn C sp) := by
  intro pins s σ H x y v u Q I rx ry h
  obtain ⟨a, b, dx, dy, fs, gs, rfl, rfl, ha, hb, hsp⟩ := h
  cases rx
  cases ry
  obtain ⟨mA, J, _⟩ := ins_get I.hok ha
  obtain ⟨mB, J', _⟩ := ins_get I.hok hb
  obtain ⟨od, J, _⟩ := J.look
  obtain ⟨od', J', _⟩ := J'.look
  obtain ⟨mm, hF⟩ := I.fr
  subst hm
  refine PySem.W.binop_K hF I.ok.mod.kin J J'.type hc g.at_ g.fn ?_
  exact thn (run_fn (vs := [.ref a, .ref b]) F hr g.b .nil hx I (.cons rfl (.cons rfl .nil)) hsp) fun r s' q => back_of q
theorem cm_own {op : CmpOp} (g : GOp X.K C m qual st) (hm : (PySem.cmpInfo op).2.1 = m) (hop : ∀ v u, compareOp op v u = richCompare op v u) (F : FnAt X.prog X.w X.K X.mg X.base CX k (He.ma X.K C m) ["self", "other"] sp) (hr : Room k X.A)
    (hx : Passes CX X E0 := by first | exact pass0 | exact passL) : OpR X (compareOp op) (rOwn C sp) := by
  intro pins s σ H x y v u Q I rx ry h
  obtain ⟨a, b, dx, dy, fs, gs, rfl, rfl, ha, hb, hsp⟩ := h
  cases rx
  cases ry
  obtain ⟨mA, J, _⟩ := ins_get I.hok ha
  obtain ⟨mB, J', _⟩ := ins_get I.hok hb
  obtain ⟨od, J, _⟩ := J.look
  obtain ⟨od', J', _⟩ := J'.look
  obtain ⟨mm, hF⟩ := I.fr
  subst hm
  rw [hop]
  refine PySem.W.cmp_K (tb := .ref C) hr.units0 hF I.ok.mod.kin J J'.type (by simp [PySem.W.notFirst]) g.at_ g.fn ?_
  exact thn (run_fn (vs := [.ref a, .ref b]) F hr g.b .nil hx I (.cons rfl (.cons rfl .nil)) hsp) fun r s' q => back_of q
end
end My

/-! own layer: sizes -/
namespace My
open PySem PySem.Spec PyProof.Rows L2
theorem log_lt {n k : Nat} (hk : 0 < k) (h : n < 2 ^ k) : n.log2 < k := PySem.Flt.log2_lt_of hk h
theorem mulS {i j : Int} (h1 : -1000000000000000000000000000000 < i) (h2 : i < 1000000000000000000000000000000) (h3 : -1000000000000000000000000000000 < j) (h4 : j < 1000000000000000000000000000000) : CMulW i j :=
  wide_mul (a := 100) (b := 100) (Nat.lt_of_lt_of_le (m := 1000000000000000000000000000000) (by omega) (by decide +kernel)) (Nat.lt_of_lt_of_le (m := 1000000000000000000000000000000) (by omega) (by decide +kernel)) (by decide) (by decide) (by decide)
theorem divS {i j : Int} (h3 : 0 < j) (h4 : j < 1000000000000000000000000000000) : CDivW i j :=
  wide_div (b := 100) h3 (Nat.lt_of_lt_of_le (m := 1000000000000000000000000000000) (by omega) (by decide +kernel)) (by decide) (by decide)
theorem bits_le (x : Int) : Builtin.Int.intBits x ≤ x.natAbs.log2 + 1 := by
  unfold Builtin.Int.intBits
  split <;> omega
theorem pow3S {i : Int} (h1 : -1000000000000000000000000000000 < i) (h2 : i < 1000000000000000000000000000000) : CPowW i 3 := by
  have h : i.natAbs.log2 < 100 := log_lt (by decide) (Nat.lt_of_lt_of_le (m := 1000000000000000000000000000000) (by omega) (by decide +kernel))
  have b := bits_le i
  refine ⟨by decide, ?_⟩
  have e : (2 : Int) ^ 27 = 134217728 := by decide
  rw [e]
  omega
theorem powL {i j : Int} (h : decide (0 ≤ j ∧ (Builtin.Int.intBits i : Int) * j ≤ 134217728) = true) : CPowW i j := by
  have h := of_decide_eq_true h
  exact ⟨h.1, h.2⟩
/-- k * c * c + d of a draw's number -/
theorem pow3Q {b k c d : Int} (hb : 0 ≤ b) (hb2 : b < 2305843009213693952) (hk : 0 ≤ k) (hk2 : k ≤ 1000000) (hc : 0 ≤ c) (hc2 : c ≤ 1000001) (hd : 0 ≤ d) (hd2 : d ≤ 1000000) : CPowW (b + k * c * c + d) 3 := by
  have h1 : 0 ≤ k * c := Int.mul_nonneg hk hc
  have h2 : k * c ≤ 1000000 * 1000001 := Int.mul_le_mul hk2 hc2 hc (by decide)
  have h3 : 0 ≤ k * c * c := Int.mul_nonneg h1 hc
  have h4 : k * c * c ≤ 1000000 * 1000001 * 1000001 := Int.mul_le_mul h2 hc2 hc (by decide)
  exact pow3S (by omega) (by omega)
section
variable {H : Hp} {Q : VK}
/-- a remainder, told by its bounds alone -/
theorem i_modQ {a j : Int} (hj : 0 < j) (h : ∀ m : Int, 0 ≤ m → m < j → Q (.int m) H) : rI (fun _ j => 0 < j) (fun i j => V.int (i % j)) (.int a) (.int j) H Q :=
  ⟨a, j, rfl, rfl, hj, h _ (Int.emod_nonneg _ (by omega)) (Int.emod_lt_of_pos _ hj)⟩
end
theorem pot_lt {m : Int} (h0 : 0 ≤ m) (h : m < (10 ^ Int.toNat 60) ^ Int.toNat 5) : m.natAbs < 2 ^ 1000 := by
  have e : ((10 : Int) ^ Int.toNat 60) ^ Int.toNat 5 < ((2 ^ 1000 : Nat) : Int) := by decide +kernel
  have h2 : m < ((2 ^ 1000 : Nat) : Int) := Int.lt_trans h e
  generalize 2 ^ 1000 = z at h2 ⊢
  omega
theorem mul01 {m : Int} {k : Bool} (h : m.natAbs < 2 ^ 1000) : CMulW m (if k = true then 1 else 0) := wide_mul (a := 1000) (b := 1) h (by cases k <;> decide) (by decide) (by decide) (by decide)
theorem mul01_nn {m : Int} {k : Bool} (h : 0 ≤ m) : 0 ≤ m * (if k = true then 1 else 0) := by cases k <;> simp [h]
/-! ### ratios are rationals -/
theorem rat_nd (a : Int) (b : Nat) (hb : 0 < b) : ((a : Rat) / (b : Rat)).num = a / ((Nat.gcd a.natAbs b : Nat) : Int) ∧ ((a : Rat) / (b : Rat)).den = b / Nat.gcd a.natAbs b := by
  have h : (a : Rat) / (b : Rat) = mkRat a b := (Rat.mkRat_eq_div a b).symm
  rw [h]
  have hz : b ≠ 0 := by omega
  unfold mkRat
  rw [dif_neg hz, Rat.normalize_eq hz]
  exact ⟨rfl, rfl⟩
theorem rat_ndI (a b : Int) (hb : 0 < b) : ((a : Rat) / (b : Rat)).num = a / ((Nat.gcd a.natAbs b.natAbs : Nat) : Int) ∧ (((a : Rat) / (b : Rat)).den : Int) = b / ((Nat.gcd a.natAbs b.natAbs : Nat) : Int) := by
  obtain ⟨n, rfl⟩ : ∃ n : Nat, b = (n : Int) := ⟨b.toNat, by omega⟩
  have h := rat_nd a n (by omega)
  have e : ((n : Int) : Rat) = (n : Rat) := by norm_cast
  rw [e, h.1, h.2]
  simp
/-- a ratio's pair -/
abbrev rat (q : Rat) : List V := [.int q.num, .int (q.den : Int)]
theorem rat_div {a b : Int} (hb : 0 < b) : ([V.int (a / ((Nat.gcd a.natAbs b.natAbs : Nat) : Int)), V.int (b / ((Nat.gcd a.natAbs b.natAbs : Nat) : Int))] : List V) = rat ((a : Rat) / (b : Rat)) := by
  obtain ⟨h1, h2⟩ := rat_ndI a b hb
  unfold rat
  rw [h1, h2]
theorem gcd_div {a b : Int} (hb : 0 < b) (sb : b.natAbs < 2 ^ 4000) : CDivW a ((Nat.gcd a.natAbs b.natAbs : Nat) : Int) ∧ CDivW b ((Nat.gcd a.natAbs b.natAbs : Nat) : Int) := by
  have h1 : 0 < Nat.gcd a.natAbs b.natAbs := Nat.gcd_pos_of_pos_right _ (by omega)
  have h2 : Nat.gcd a.natAbs b.natAbs ≤ b.natAbs := Nat.le_of_dvd (by omega) (Nat.gcd_dvd_right _ _)
  have h3 : ((Nat.gcd a.natAbs b.natAbs : Nat) : Int).natAbs < 2 ^ 4000 := by rw [Int.natAbs_natCast]; exact Nat.lt_of_le_of_lt h2 sb
  exact ⟨wide_div (b := 4000) (by omega) h3 (by decide) (by decide), wide_div (b := 4000) (by omega) h3 (by decide) (by decide)⟩
end My

/-! own layer: ratios as rationals, core Lean alone -/
namespace My
/-- both parts below 2 ^ k -/
def Sz (k : Nat) (q : Rat) : Prop := q.num.natAbs < 2 ^ k ∧ q.den < 2 ^ k
theorem Sz.mono {j k : Nat} {q : Rat} (h : Sz j q) (hk : j ≤ k) : Sz k q := ⟨Nat.lt_of_lt_of_le h.1 (Nat.pow_le_pow_right (by decide) hk), Nat.lt_of_lt_of_le h.2 (Nat.pow_le_pow_right (by decide) hk)⟩
theorem sz_div {a : Int} {b k : Nat} (hb : 0 < b) (h1 : a.natAbs < 2 ^ k) (h2 : b < 2 ^ k) : Sz k ((a : Rat) / (b : Rat)) := by
  obtain ⟨e1, e2⟩ := rat_nd a b hb
  refine ⟨?_, ?_⟩
  · rw [e1, Int.natAbs_ediv_of_dvd (Int.ofNat_dvd_left.mpr (Nat.gcd_dvd_left _ _)), Int.natAbs_natCast]
    exact Nat.lt_of_le_of_lt (Nat.div_le_self _ _) h1
  · rw [e2]
    exact Nat.lt_of_le_of_lt (Nat.div_le_self _ _) h2
theorem sz_divI {a b : Int} {k : Nat} (hb : 0 < b) (h1 : a.natAbs < 2 ^ k) (h2 : b.natAbs < 2 ^ k) : Sz k ((a : Rat) / (b : Rat)) := by
  obtain ⟨n, rfl⟩ : ∃ n : Nat, b = (n : Int) := ⟨b.toNat, by omega⟩
  have e : ((n : Int) : Rat) = (n : Rat) := by norm_cast
  rw [e]
  exact sz_div (by omega) h1 (by simpa using h2)
theorem den_ne (p : Rat) : ((p.den : Nat) : Rat) ≠ 0 := fun z => p.den_nz (by exact_mod_cast z)
theorem den_pos (p : Rat) : 0 < p.den := Nat.pos_of_ne_zero p.den_nz
theorem num_den (p : Rat) : (p.num : Rat) / ((p.den : Nat) : Rat) = p := by
  have h := Rat.num_divInt_den p
  rw [Rat.divInt_eq_div] at h
  have e : (((p.den : Nat) : Int) : Rat) = ((p.den : Nat) : Rat) := by norm_cast
  rw [e] at h
  exact h
theorem add_div (p q : Rat) : ((p.num * (q.den : Int) + q.num * (p.den : Int) : Int) : Rat) / (((p.den : Int) * (q.den : Int) : Int) : Rat) = p + q := by
  have h1 := num_den p
  have h2 := num_den q
  have d1 := den_ne p
  have d2 := den_ne q
  have e3 : ((p.num * (q.den : Int) + q.num * (p.den : Int) : Int) : Rat) = (p.num : Rat) * (q.den : Rat) + (q.num : Rat) * (p.den : Rat) := by push_cast; rfl
  have e4 : (((p.den : Int) * (q.den : Int) : Int) : Rat) = (p.den : Rat) * (q.den : Rat) := by push_cast; rfl
  rw [e3, e4]
  grind
theorem mul_div (p q : Rat) : ((p.num * q.num : Int) : Rat) / (((p.den : Int) * (q.den : Int) : Int) : Rat) = p * q := by
  have h1 := num_den p
  have h2 := num_den q
  have d1 := den_ne p
  have d2 := den_ne q
  have e3 : ((p.num * q.num : Int) : Rat) = (p.num : Rat) * (q.num : Rat) := by push_cast; rfl
  have e4 : (((p.den : Int) * (q.den : Int) : Int) : Rat) = (p.den : Rat) * (q.den : Rat) := by push_cast; rfl
  rw [e3, e4]
  grind
theorem pos_num {p : Rat} (h : 0 < p) : 0 < p.num := by
  have := (Rat.lt_iff 0 p).mp h
  simpa using this
theorem nn_num {p : Rat} (h : 0 ≤ p) : 0 ≤ p.num := Rat.num_nonneg.mpr h
theorem div_div {p q : Rat} (hq : 0 < q) : ((p.num * (q.den : Int) : Int) : Rat) / (((p.den : Int) * q.num : Int) : Rat) = p / q := by
  have h1 := num_den p
  have h2 := num_den q
  have d1 := den_ne p
  have d2 := den_ne q
  have e3 : ((p.num * (q.den : Int) : Int) : Rat) = (p.num : Rat) * (q.den : Rat) := by push_cast; rfl
  have e4 : (((p.den : Int) * q.num : Int) : Rat) = (p.den : Rat) * (q.num : Rat) := by push_cast; rfl
  have d3 : (q.num : Rat) ≠ 0 := fun z => by
    have := pos_num hq
    have z' : q.num = 0 := by exact_mod_cast z
    omega
  rw [e3, e4]
  grind
theorem le_nd (p q : Rat) : (q ≤ p) ↔ p.num * (q.den : Int) ≥ q.num * (p.den : Int) := Rat.le_iff q p
theorem abs_mul_lt {a b : Int} {j k : Nat} (h1 : a.natAbs < 2 ^ j) (h2 : b.natAbs < 2 ^ k) : (a * b).natAbs < 2 ^ (j + k) := by
  rw [Int.natAbs_mul, Nat.pow_add]
  exact Nat.mul_lt_mul'' h1 h2
theorem abs_add_lt {a b : Int} {j : Nat} (h1 : a.natAbs < 2 ^ j) (h2 : b.natAbs < 2 ^ j) : (a + b).natAbs < 2 ^ (j + 1) := by
  rw [Nat.pow_succ]
  have := Int.natAbs_add_le a b
  omega
section
variable {j k : Nat} {p q : Rat}
theorem Sz.den (h : Sz j p) : ((p.den : Nat) : Int).natAbs < 2 ^ j := by rw [Int.natAbs_natCast]; exact h.2
theorem dd_pos (p q : Rat) : (0 : Int) < (p.den : Int) * (q.den : Int) := Int.mul_pos (by have := den_pos p; omega) (by have := den_pos q; omega)
theorem dn_pos (p : Rat) (h : 0 < q) : (0 : Int) < (p.den : Int) * q.num := Int.mul_pos (by have := den_pos p; omega) (pos_num h)
theorem Sz.add (h : Sz j p) (h' : Sz j q) : Sz (j + j + 1) (p + q) := by
  rw [← add_div]
  exact sz_divI (dd_pos p q) (abs_add_lt (abs_mul_lt h.1 h'.den) (abs_mul_lt h'.1 h.den)) (Nat.lt_of_lt_of_le (abs_mul_lt h.den h'.den) (Nat.pow_le_pow_right (by decide) (by omega)))
theorem Sz.mul (h : Sz j p) (h' : Sz j q) : Sz (j + j) (p * q) := by
  rw [← mul_div]
  exact sz_divI (dd_pos p q) (abs_mul_lt h.1 h'.1) (abs_mul_lt h.den h'.den)
theorem Sz.div (h : Sz j p) (h' : Sz j q) (hq : 0 < q) : Sz (j + j) (p / q) := by
  rw [← div_div hq]
  exact sz_divI (dn_pos p hq) (abs_mul_lt h.1 h'.den) (abs_mul_lt h.den h'.1)
end
end My

/-! own layer, 3: what the laws' own helpers promise -/
namespace My
open PySem PySem.Spec PyProof.Rows L2
/-- a pot at p, of at most n draws -/
def Pot (H : Hp) (p : Addr) (n : Int) : Prop := ∃ a b c : Int, H p = some (.lst [.int a, .int b, .int c]) ∧ 0 ≤ a ∧ 0 ≤ b ∧ b < 2305843009213693952 ∧ 0 ≤ c ∧ c ≤ n
def spTake : Sp := fun vs H Q _ => ∃ (p : Addr) (u n : Int), vs = [.ref p, .int u] ∧ Pot H p n ∧ n < 1000000 ∧ 0 < u ∧ u < 1000000000 ∧ ∀ (r : Int) (H' : Hp), 0 ≤ r → r < u → Pot H' p (n + 1) → But p H H' → Q (.int r) H'
def spOf (K : PySem.W.Frag) : Sp := fun vs H Q _ => ∃ (p q : Addr) (xs : List V) (n : Int), vs = [.ref p, .ref q] ∧ Pot H p n ∧ n < 1000000 ∧ q ≠ p ∧ SqL K H q xs ∧ 0 < xs.length ∧ xs.length < 1000000 ∧
  ∀ (v : V) (H' : Hp), v ∈ xs → Pot H' p (n + 1) → But p H H' → Q v H'
def spCells (K : PySem.W.Frag) : Sp := fun vs H Q _ => ∃ (a : Addr) (ns : List Int) (m : Int), vs = [.ref a, .int m] ∧ SqL K H a (ns.map V.int) ∧ ns.length ≤ 63 ∧ m ≤ 100 ∧
  ∀ (q : Addr) (H' : Hp) (j : Nat), j ≤ 100 → Same H H' → H q = none → H' q = some (.lst (rgV 0 j)) → Q (.ref q) H'
def spPot (K : PySem.W.Frag) : Sp := fun vs H Q _ => ∃ (a : Addr) (ns : List Int) (i : Int), vs = [.ref a, .int i] ∧ SqL K H a (ns.map V.int) ∧ 0 ≤ i ∧ i ≤ 100 ∧
  ∀ (p : Addr) (H' : Hp), Same H H' → H p = none → Pot H' p 0 → Q (.ref p) H'
def spCommon : Sp := fun vs H Q _ => ∃ a b : Int, vs = [.int a, .int b] ∧ Q (.int ((Nat.gcd a.natAbs b.natAbs : Nat) : Int)) H
def spPair : Sp := fun vs H Q _ => ∃ a b : Int, vs = [.int a, .int b] ∧ 0 < b ∧ a.natAbs < 2 ^ 4000 ∧ b.natAbs < 2 ^ 4000 ∧
  ∀ (p : Addr) (H' : Hp), Same H H' → H p = none → H' p = some (.tup (rat ((a : Rat) / b))) → Q (.ref p) H'
end My

/-! own layer, 4: ratios and sources -/
namespace My
open PySem PySem.Spec PyProof.Rows L2
section
variable {K : PySem.W.Frag} {H H' : Hp} {a p : Addr} {xs : List V}
theorem tyT (h : SqT K H a xs) : TyX K H (.ref a) (.type "tuple") := by
  rcases h with (h | ⟨o, h⟩) | ⟨o, its, n, hk, hc, _⟩
  · exact .base (.tup h)
  · exact .fTuple h
  · exact .kTuple hk hc
/-- a list that changes is no tuple that is read -/
theorem seqT_but {l : List V} (hp : H p = some (.lst l)) (B : But p H H') (h : SqT K H a xs) : SqT K H' a xs := by
  rcases h with (h | ⟨o, h⟩) | h
  · exact .inl (.inl (B _ _ (fun z => by rw [z, hp] at h; cases h) h))
  · exact .inl (.inr ⟨o, B _ _ (fun z => by rw [z, hp] at h; cases h) h⟩)
  · exact .inr h
theorem Pot.but {n : Int} (hP : Pot H p n) (B : But p H H') (h : SqT K H a xs) : SqT K H' a xs := by
  obtain ⟨_, _, _, hp, _⟩ := hP
  exact seqT_but hp B h
theorem Pot.mono {n m : Int} (hP : Pot H p n) (h : n ≤ m) : Pot H p m := by
  obtain ⟨a, b, c, hp, h1, h2, h3, h4, h5⟩ := hP
  exact ⟨a, b, c, hp, h1, h2, h3, h4, Int.le_trans h5 h⟩
theorem Pot.same {n : Int} (hP : Pot H p n) (S : Same H H') : Pot H' p n := by
  obtain ⟨a, b, c, hp, h⟩ := hP
  exact ⟨a, b, c, S _ _ hp, h⟩
end
section
variable {K : PySem.W.Frag} {H : Hp} {Q : VK} {b : Bool}
theorem i_isiI {i : Int} {n : String} (e : kitB "int" n = some b) (h : Q (.bl b) H) : rIsi K [.int i, .ty n] H Q := ⟨_, _, _, _, b, rfl, .ty n, .base (.int i), kit_ty e, h⟩
theorem i_isiT {a : Addr} {xs : List V} {n : String} (hx : SqT K H a xs) (e : kitB "tuple" n = some b) (h : Q (.bl b) H) : rIsi K [.ref a, .ty n] H Q := ⟨_, _, _, _, b, rfl, .ty n, tyT hx, kit_ty e, h⟩
theorem i_tupg {n : Nat} {t : TGs} {a : Addr} {xs : List V} {σ : L2.St} {R : L2.St → Hp → Prop} (hx : SqT K H a xs) (hl : xs.length = n) (h : t xs σ H R) : gTup K n t (.ref a) σ H R := ⟨a, xs, rfl, hx, hl, h⟩
theorem i_gcons {t : TG} {u : TGs} {v : V} {r : List V} {σ : L2.St} {R : L2.St → Hp → Prop} (h : t v σ H fun σ' H' => u r σ' H' R) : gCons t u (v :: r) σ H R := ⟨v, r, rfl, h⟩
theorem i_gnil {σ : L2.St} {R : L2.St → Hp → Prop} (h : R σ H) : gNil [] σ H R := ⟨rfl, h⟩
end
/-- one value, an integer -/
def spIsInt : Sp := fun vs H Q _ => ∃ i : Int, vs = [.int i] ∧ Q (.bl true) H
def spIsRatio (K : PySem.W.Frag) : Sp := fun vs H Q _ => ∃ (a : Addr) (p : Rat), vs = [.ref a] ∧ SqT K H a (rat p) ∧ 0 ≤ p ∧ Q (.bl true) H
/-- two ratios and what comes of them: a new ratio -/
def spBin (K : PySem.W.Frag) (pre : Rat → Rat → Prop) (f : Rat → Rat → Rat) : Sp := fun vs H Q _ => ∃ (a b : Addr) (p q : Rat) (j : Nat), vs = [.ref a, .ref b] ∧ SqT K H a (rat p) ∧ SqT K H b (rat q) ∧ Sz j p ∧ Sz j q ∧ j ≤ 1900 ∧ pre p q ∧
  ∀ (r : Addr) (H' : Hp), Same H H' → H r = none → H' r = some (.tup (rat (f p q))) → Q (.ref r) H'
abbrev spPlus (K : PySem.W.Frag) : Sp := spBin K (fun _ _ => True) fun p q => p + q
abbrev spTimes (K : PySem.W.Frag) : Sp := spBin K (fun _ _ => True) fun p q => p * q
abbrev spOver (K : PySem.W.Frag) : Sp := spBin K (fun _ q => 0 < q) fun p q => p / q
/-- a comparison of two ratios -/
def spCmp (K : PySem.W.Frag) (f : Rat → Rat → Bool) : Sp := fun vs H Q _ => ∃ (a b : Addr) (p q : Rat) (j : Nat), vs = [.ref a, .ref b] ∧ SqT K H a (rat p) ∧ SqT K H b (rat q) ∧ Sz j p ∧ Sz j q ∧ j ≤ 1900 ∧ Q (.bl (f p q)) H
abbrev spAtLeast (K : PySem.W.Frag) : Sp := spCmp K fun p q => decide (q ≤ p)
theorem mulZ {i j : Int} {a : Nat} (h1 : i.natAbs < 2 ^ a) (h2 : j.natAbs < 2 ^ a) (h : a ≤ 100000) : CMulW i j :=
  wide_mul (a := a + 1) (b := a + 1) (Nat.lt_of_lt_of_le h1 (Nat.pow_le_pow_right (by decide) (by omega))) (Nat.lt_of_lt_of_le h2 (Nat.pow_le_pow_right (by decide) (by omega))) (by omega) (by omega) (by omega)
theorem pow_le_4000 {n j : Nat} (h : n < 2 ^ j) (hj : j ≤ 4000) : n < 2 ^ 4000 := Nat.lt_of_lt_of_le h (Nat.pow_le_pow_right (by decide) hj)
/-! ### sources -/
def srcF (v o : Addr) : List (Str × V) := [("_volts", .ref v), ("_ohms", .ref o)]
theorem srcF_eq (v o : Addr) : putF "_ohms" (.ref o) (putF "_volts" (.ref v) []) = srcF v o := by
  show (if ("_volts" : Str) = "_ohms" then _ else _ :: _) = _
  rw [if_neg (by decide +kernel)]
  rfl
theorem srcF_v (v o : Addr) : (srcF v o).lookup ("_volts" : Str) = some (.ref v) := rfl
theorem srcF_o (v o : Addr) : (srcF v o).lookup ("_ohms" : Str) = some (.ref o) := rfl
theorem srcF_no {v o : Addr} {m : Str} (h1 : ¬ m = "_volts") (h2 : ¬ m = "_ohms") : (srcF v o).lookup m = none := by
  unfold srcF
  rw [List.lookup_cons, List.lookup_cons, beq_false_of_ne h1, beq_false_of_ne h2]
  rfl
/-- a source of these volts and ohms stands at s -/
def SrcAt (K : PySem.W.Frag) (C : Addr) (H : Hp) (s : Addr) (v r : Rat) : Prop := ∃ dx a b, H s = some (.ins C dx (srcF a b)) ∧ SqT K H a (rat v) ∧ SqT K H b (rat r) ∧ 0 ≤ v ∧ 0 ≤ r
section
variable {K : PySem.W.Frag} {C : Addr} {H H' : Hp} {s p : Addr} {v r : Rat}
theorem SrcAt.same (h : SrcAt K C H s v r) (S : Same H H') : SrcAt K C H' s v r := by
  obtain ⟨dx, a, b, h1, h2, h3, h4⟩ := h
  exact ⟨dx, a, b, S _ _ h1, L2.Same.seqT S h2, L2.Same.seqT S h3, h4⟩
theorem SrcAt.but {n : Int} (h : SrcAt K C H s v r) (hP : Pot H p n) (B : But p H H') : SrcAt K C H' s v r := by
  obtain ⟨dx, a, b, h1, h2, h3, h4⟩ := h
  obtain ⟨x, y, z, hp, _⟩ := id hP
  exact ⟨dx, a, b, B _ _ (fun e => by rw [e, hp] at h1; cases h1) h1, hP.but B h2, hP.but B h3, h4⟩
end
/-- the volts, the ohms of a source -/
def spVolts (C : Addr) : Sp := fun vs H Q _ => ∃ s dx a b, vs = [.ref s] ∧ H s = some (.ins C dx (srcF a b)) ∧ Q (.ref a) H
def spOhms (C : Addr) : Sp := fun vs H Q _ => ∃ s dx a b, vs = [.ref s] ∧ H s = some (.ins C dx (srcF a b)) ∧ Q (.ref b) H
def spSrcInit (K : PySem.W.Frag) (C : Addr) : Sp := fun vs H Q _ => ∃ s dx a b v r, vs = [.ref s, .ref a, .ref b] ∧ H s = some (.ins C dx []) ∧ SqT K H a (rat v) ∧ SqT K H b (rat r) ∧ 0 ≤ v ∧ 0 ≤ r ∧
  ∀ H', But s H H' → H' s = some (.ins C dx (srcF a b)) → Q .non H'
/-- 1 + r * g -/
def spWeak (K : PySem.W.Frag) : Sp := fun vs H Q _ => ∃ (a b : Addr) (r g : Rat) (j : Nat), vs = [.ref a, .ref b] ∧ SqT K H a (rat r) ∧ SqT K H b (rat g) ∧ Sz j r ∧ Sz j g ∧ j ≤ 400 ∧ 0 ≤ r ∧ 0 ≤ g ∧
  ∀ (p : Addr) (H' : Hp), Same H H' → H p = none → H' p = some (.tup (rat (1 + r * g))) → Q (.ref p) H'
def spAt (K : PySem.W.Frag) (C : Addr) : Sp := fun vs H Q _ => ∃ (s b : Addr) (v r g : Rat) (j : Nat), vs = [.ref s, .ref b] ∧ SrcAt K C H s v r ∧ SqT K H b (rat g) ∧ Sz j v ∧ Sz j r ∧ Sz j g ∧ j ≤ 400 ∧ 0 ≤ g ∧
  ∀ (p : Addr) (H' : Hp), Same H H' → H p = none → H' p = some (.tup (rat (v / (1 + r * g)))) → Q (.ref p) H'
def spUnder (K : PySem.W.Frag) (C : Addr) : Sp := fun vs H Q _ => ∃ (s b : Addr) (v r g : Rat) (j : Nat), vs = [.ref s, .ref b] ∧ SrcAt K C H s v r ∧ SqT K H b (rat g) ∧ Sz j v ∧ Sz j r ∧ Sz j g ∧ j ≤ 400 ∧ 0 ≤ g ∧
  ∀ (p : Addr) (H' : Hp), Same H H' → H p = none → SrcAt K C H' p (v / (1 + r * g)) (r / (1 + r * g)) → Q (.ref p) H'
/-- whether one source covers another one -/
def strong (v r w s : Rat) : Bool := decide (w ≤ v) && decide (w * r ≤ v * s)
def spSrcCmp (K : PySem.W.Frag) (C : Addr) (f : Rat → Rat → Rat → Rat → Bool) : Sp := fun vs H Q _ => ∃ (s t : Addr) (v r w u : Rat) (j : Nat), vs = [.ref s, .ref t] ∧ SrcAt K C H s v r ∧ SrcAt K C H t w u ∧ Sz j v ∧ Sz j r ∧ Sz j w ∧ Sz j u ∧ j ≤ 800 ∧
  ∀ H', Same H H' → Q (.bl (f v r w u)) H'
/-- what isinstance asks of the class of an instance -/
structure InsC (K : PySem.W.Frag) (C : Addr) : Prop where
  ha : PySem.W.findIn K (.ref C) "__class__" = some (some (.builtin "object.__class__"))
  hn : PySem.W.specialIn K (.builtin "object.__class__") "__get__" = some (some (.builtin "getset_descriptor.__get__"))
  ht : PySem.W.takesIn K (.builtin "object.__class__") = some true
  hm : PySem.W.mroIn K C (.type "object") = some true
theorem i_isiS {K : PySem.W.Frag} {C : Addr} {H : Hp} {s dx : Addr} {fs : List (Str × V)} {Q : VK} (h : H s = some (.ins C dx fs)) (c : Cls K C) (y : InsC K C) (k : Q (.bl true) H) : rIsi K [.ref s, .ref C] H Q :=
  ⟨_, _, _, _, true, rfl, .own C, .base (.ins h c y.ha y.hn y.ht y.hm), by unfold PySem.W.kitOne; rw [if_pos (beq_self_eq_true _)], k⟩
/-! ### fields, properties, methods, makes: named, so that a step finds them -/
def FldQ (K : PySem.W.Frag) (f : Str) (x : V) (H : Hp) (Q : VK) : Prop := ∃ a C dx fs v, x = .ref a ∧ H a = some (.ins C dx fs) ∧ Cls K C ∧ NoAttr K C f ∧ fs.lookup f = some v ∧ Q v H
def PropQ (C : Addr) (sp : Sp) (dvs : List V) (E : XK) (x : V) (H : Hp) (Q : VK) : Prop := ∃ a dx fs, x = .ref a ∧ H a = some (.ins C dx fs) ∧ sp (.ref a :: dvs) H Q E
def MethQ (C : Addr) (m : Str) (sp : Sp) (dvs : List V) (E : XK) (t : TA) (σ : L2.St) (x : V) (H : Hp) (Q : VK) : Prop := ∃ a dx fs, x = .ref a ∧ H a = some (.ins C dx fs) ∧ fs.lookup m = none ∧ t σ H fun vs H2 => sp (x :: (vs ++ dvs)) H2 Q E
def MakeQ (C : Addr) (sp : Sp) (dvs : List V) (E : XK) (vs : List V) (H : Hp) (Q : VK) : Prop := ∀ x dx, H x = none → H dx = none → dx ≠ x → sp (.ref x :: (vs ++ dvs)) (upd (upd H dx (.own x)) x (.ins C dx [])) (fun v H2 => v = .non ∧ Q (.ref x) H2) E
section
variable {K : PySem.W.Frag} {σ : L2.St} {H : Hp} {ta : TE} {t : TA} {Q : VK} {C s a b dx : Addr} {sp : Sp} {dvs : List V} {E : XK} {m f : Str} {D : Ends} {v r : Rat} {te : TE}
theorem i_fld0 (h : ta σ H fun x H1 => FldQ K f x H1 Q) : tFld K ta f σ H Q := h
theorem i_prop (h : ta σ H fun x H1 => PropQ C sp dvs E x H1 Q) : tProp C sp dvs E ta σ H Q := h
theorem i_meth (h : ta σ H fun x H1 => MethQ C m sp dvs E t σ x H1 Q) : tMeth C m sp dvs E ta t σ H Q := h
theorem i_make (h : t σ H fun vs H1 => MakeQ C sp dvs E vs H1 Q) : tMake C sp dvs E t σ H Q := h
theorem i_fv (h : H s = some (.ins C dx (srcF a b))) (c : Cls K C) (n : NoAttr K C "_volts") (k : Q (.ref a) H) : FldQ K "_volts" (.ref s) H Q := ⟨s, C, dx, _, _, rfl, h, c, n, srcF_v a b, k⟩
theorem i_fo (h : H s = some (.ins C dx (srcF a b))) (c : Cls K C) (n : NoAttr K C "_ohms") (k : Q (.ref b) H) : FldQ K "_ohms" (.ref s) H Q := ⟨s, C, dx, _, _, rfl, h, c, n, srcF_o a b, k⟩
theorem i_pv (h : H s = some (.ins C dx (srcF a b))) (k : Q (.ref a) H) : PropQ C (spVolts C) [] E (.ref s) H Q := ⟨s, dx, _, rfl, h, s, dx, a, b, rfl, h, k⟩
theorem i_po (h : H s = some (.ins C dx (srcF a b))) (k : Q (.ref b) H) : PropQ C (spOhms C) [] E (.ref s) H Q := ⟨s, dx, _, rfl, h, s, dx, a, b, rfl, h, k⟩
theorem i_me (h : H s = some (.ins C dx (srcF a b))) (h1 : ¬ m = "_volts") (h2 : ¬ m = "_ohms") (k : t σ H fun vs H2 => sp (.ref s :: (vs ++ dvs)) H2 Q E) : MethQ C m sp dvs E t σ (.ref s) H Q := ⟨s, dx, _, rfl, h, srcF_no h1 h2, k⟩
theorem i_mkS (ha : SqT K H a (rat v)) (hb : SqT K H b (rat r)) (hv : 0 ≤ v) (hr : 0 ≤ r) (k : ∀ s H2, Same H H2 → H s = none → SrcAt K C H2 s v r → Q (.ref s) H2) : MakeQ C (spSrcInit K C) [] E [.ref a, .ref b] H Q := by
  intro x dx hx hd hne
  have S : Same H (upd (upd H dx (.own x)) x (.ins C dx [])) := fun c o e => by
    rw [upd_ne (ne_of_none e hx), upd_ne (ne_of_none e hd)]
    exact e
  refine ⟨x, dx, a, b, v, r, rfl, upd_same, L2.Same.seqT S ha, L2.Same.seqT S hb, hv, hr, fun H' B e => ⟨rfl, ?_⟩⟩
  have S2 : Same H H' := fun c o e => B c o (ne_of_none e hx) (S c o e)
  exact k x H' S2 hx ⟨dx, a, b, e, L2.Same.seqT S2 ha, L2.Same.seqT S2 hb, hv, hr⟩
/-- self.f = e -/
theorem i_sfld (h : te σ H fun y H1 => ta σ H1 fun x H2 => ∃ a C dx fs, x = .ref a ∧ H2 a = some (.ins C dx fs) ∧ Cls K C ∧ NoAttr K C f ∧ fs.length < 1000 ∧ D.nx σ (upd H2 a (.ins C dx (putF f y fs)))) : sFld K ta te f D σ H := h
theorem one_pos {r g : Rat} (hr : 0 ≤ r) (hg : 0 ≤ g) : 0 < 1 + r * g := by
  have := Rat.mul_nonneg hr hg
  grind
theorem div_nn {p q : Rat} (hp : 0 ≤ p) (hq : 0 < q) : 0 ≤ p / q := by
  rw [Rat.div_def]
  exact Rat.mul_nonneg hp (Rat.le_of_lt (Rat.inv_pos.mpr hq))
theorem sz_one {j : Nat} (h : 0 < j) : Sz j 1 := ⟨Nat.one_lt_pow (by omega) (by decide), Nat.one_lt_pow (by omega) (by decide)⟩
theorem Sz.weak {j : Nat} {r g : Rat} (h1 : Sz j r) (h2 : Sz j g) : Sz (2 * j + 2 * j + 3) (1 + r * g) := by
  have a := (h1.mul h2).mono (k := 2 * j + 1) (by omega)
  exact ((sz_one (j := 2 * j + 1) (by omega)).add a).mono (by omega)
end
end My

/-! own layer: what is walked, list comprehensions -/
namespace My
open PySem PySem.Spec PyProof.Rows L2
def LcQ (J : It) (g : TG) (tt : TT) (te : TE) (vs : List Nat) (σ : L2.St) (H1 : Hp) (Q : VK) : Prop := ∀ D, H1 D = none → ∃ W : Nat → Nat → Hp → Prop, (∃ m, W 0 m (upd H1 D (.lst []))) ∧ ∀ i m H, W i m H →
  (J.stop i H ∧ Q (.ref D) H) ∨ (J.go i H ∧ ∃ Nx : Hp → Prop, (∀ H', Nx H' → ∃ m', m' < m ∧ W (i + 1) m' H') ∧ ∀ x H', J.yld i H x H' → g x (wipe σ vs) H' fun σ2 H2 => wipe σ2 vs = wipe σ vs ∧ tt σ2 H2 fun b H3 =>
    if b = true then te σ2 H3 fun y H4 => ∃ acc, H4 D = some (.lst acc) ∧ acc.length < sizeLine ∧ Nx (upd H4 D (.lst (acc ++ [y]))) else Nx H3)
def ForQ (J : It) (g : TG) (tb : TS) (D : Ends) (σ : L2.St) (H1 : Hp) : Prop := ∃ W : Nat → Nat → L2.St → Hp → Prop, (∃ m, W 0 m σ H1) ∧ ∀ i m σ H, W i m σ H →
  (J.stop i H ∧ D.nx σ H) ∨ (J.go i H ∧ ∃ N : L2.St → Hp → Prop, (∀ σ' H', N σ' H' → ∃ m', m' < m ∧ W (i + 1) m' σ' H') ∧ ∀ x H', J.yld i H x H' → g x σ H' fun σ2 H2 => tb { D with nx := N, ct := N, bk := D.nx } σ2 H2)
def RngQ (vs : List V) (H : Hp) (R : It → Hp → Prop) : Prop := ∃ j : Int, vs = [.int j] ∧ -(2 ^ 62) ≤ j ∧ j < 2 ^ 62 ∧ R (Itr 0 j.toNat) H
def WlkL (K : PySem.W.Frag) (x : V) (H : Hp) (R : It → Hp → Prop) : Prop := ∃ a, x = .ref a ∧ (∃ xs, SqL K H a xs) ∧ R (Itl K a) H
def WlkT (K : PySem.W.Frag) (x : V) (H : Hp) (R : It → Hp → Prop) : Prop := ∃ a, x = .ref a ∧ (∃ xs, SqT K H a xs) ∧ R (Itt K a) H
section
variable {K : PySem.W.Frag} {σ : L2.St} {H : Hp} {wi : TI} {g : TG} {tt : TT} {te tl : TE} {tb : TS} {ta : TA} {vs : List Nat} {Q : VK} {D : Ends} {R : It → Hp → Prop} {a : Addr} {xs : List V}
theorem i_lc (h : wi σ H fun J H1 => LcQ J g tt te vs σ H1 Q) : tLc wi g tt te vs σ H Q := h
theorem i_for (h : wi σ H fun J H1 => ForQ J g tb D σ H1) : tFor wi g tb D σ H := h
theorem i_rng (h : ta σ H fun vs H1 => RngQ vs H1 R) : iRng1 ta σ H R := h
theorem i_rngv {j : Int} (h1 : -(2 ^ 62) ≤ j) (h2 : j < 2 ^ 62) (h : R (Itr 0 j.toNat) H) : RngQ [.int j] H R := ⟨j, rfl, h1, h2, h⟩
theorem i_wl (h : tl σ H fun x H1 => WlkL K x H1 R) : iList K tl σ H R := h
theorem i_wt (h : tl σ H fun x H1 => WlkT K x H1 R) : iTup K tl σ H R := h
theorem i_wlv (hl : SqL K H a xs) (h : R (Itl K a) H) : WlkL K (.ref a) H R := ⟨a, rfl, ⟨xs, hl⟩, h⟩
theorem i_wtv (hl : SqT K H a xs) (h : R (Itt K a) H) : WlkT K (.ref a) H R := ⟨a, rfl, ⟨xs, hl⟩, h⟩
/-- what a turn's element is to reach -/
def TurnP (Pv : Addr → Nat → Hp → List V → Prop) (A : Addr) (i : Nat) : VK := fun y H4 => ∃ acc, H4 A = some (.lst acc) ∧ acc.length < sizeLine ∧
  ∃ acc', acc'.length = i + 1 ∧ upd H4 A (.lst (acc ++ [y])) A = some (.lst acc') ∧ Pv A (i + 1) (upd H4 A (.lst (acc ++ [y]))) acc'
theorem turn_end {Pv : Addr → Nat → Hp → List V → Prop} {A : Addr} {i : Nat} {acc : List V} {y : V} (h : H A = some (.lst acc)) (hl : acc.length = i) (hi : i < 1000000) (k : ∀ H5, But A H H5 → H5 A = some (.lst (acc ++ [y])) → Pv A (i + 1) H5 (acc ++ [y])) : TurnP Pv A i y H :=
  ⟨acc, h, by rw [hl]; exact Nat.lt_trans hi (by decide), acc ++ [y], by rw [List.length_append, hl]; rfl, upd_same, k _ But.upd upd_same⟩
theorem lcq_range {lo : Int} {n : Nat} (Pv : Addr → Nat → Hp → List V → Prop) (h0 : ∀ A H', Same H H' → H A = none → H' A = some (.lst []) → Pv A 0 H' [])
    (hs : ∀ A i H' acc, i < n → acc.length = i → H' A = some (.lst acc) → Pv A i H' acc → g (.int (lo + i)) (wipe σ vs) H' fun σ2 H2 => wipe σ2 vs = wipe σ vs ∧ te σ2 H2 (TurnP Pv A i))
    (hd : ∀ A H' acc, acc.length = n → H' A = some (.lst acc) → Pv A n H' acc → Q (.ref A) H') : LcQ (Itr lo n) g tYes te vs σ H Q := by
  intro A hA
  refine lc_range (fun i H' => ∃ acc, acc.length = i ∧ H' A = some (.lst acc) ∧ Pv A i H' acc) ⟨[], rfl, upd_same, h0 A _ (fun b u e => by rw [upd_ne (ne_of_none e hA)]; exact e) hA upd_same⟩ ?_ (fun H' ⟨acc, h1, h2, h3⟩ => hd A H' acc h1 h2 h3)
  rintro i H' hi ⟨acc, hl, hA', hP⟩
  exact hs A i H' acc hi hl hA' hP
theorem lcq_list {xs : List V} {a : Addr} (Pv : Addr → Nat → Hp → List V → Prop) (h0 : ∀ A H', Same H H' → H A = none → H' A = some (.lst []) → Pv A 0 H' []) (hl : ∀ A i H' acc, H' A = some (.lst acc) → Pv A i H' acc → SqL K H' a xs)
    (hs : ∀ A i x H' acc, xs[i]? = some x → acc.length = i → H' A = some (.lst acc) → Pv A i H' acc → g x (wipe σ vs) H' fun σ2 H2 => wipe σ2 vs = wipe σ vs ∧ te σ2 H2 (TurnP Pv A i))
    (hd : ∀ A H' acc, acc.length = xs.length → H' A = some (.lst acc) → Pv A xs.length H' acc → Q (.ref A) H') : LcQ (Itl K a) g tYes te vs σ H Q := by
  intro A hA
  refine lc_list (xs := xs) (fun i H' => ∃ acc, acc.length = i ∧ H' A = some (.lst acc) ∧ Pv A i H' acc) ⟨[], rfl, upd_same, h0 A _ (fun b u e => by rw [upd_ne (ne_of_none e hA)]; exact e) hA upd_same⟩ (fun i H' _ ⟨acc, h1, h2, h3⟩ => hl A i H' acc h2 h3) ?_ (fun H' ⟨acc, h1, h2, h3⟩ => hd A H' acc h1 h2 h3)
  rintro i x H' hx ⟨acc, hl, hA', hP⟩
  exact hs A i x H' acc hx hl hA' hP
theorem lcq_tup {xs : List V} {a : Addr} (Pv : Addr → Nat → Hp → List V → Prop) (h0 : ∀ A H', Same H H' → H A = none → H' A = some (.lst []) → Pv A 0 H' []) (hl : ∀ A i H' acc, H' A = some (.lst acc) → Pv A i H' acc → SqT K H' a xs)
    (hs : ∀ A i x H' acc, xs[i]? = some x → acc.length = i → H' A = some (.lst acc) → Pv A i H' acc → g x (wipe σ vs) H' fun σ2 H2 => wipe σ2 vs = wipe σ vs ∧ te σ2 H2 (TurnP Pv A i))
    (hd : ∀ A H' acc, acc.length = xs.length → H' A = some (.lst acc) → Pv A xs.length H' acc → Q (.ref A) H') : LcQ (Itt K a) g tYes te vs σ H Q := by
  intro A hA
  refine lc_tup (xs := xs) (fun i H' => ∃ acc, acc.length = i ∧ H' A = some (.lst acc) ∧ Pv A i H' acc) ⟨[], rfl, upd_same, h0 A _ (fun b u e => by rw [upd_ne (ne_of_none e hA)]; exact e) hA upd_same⟩ (fun i H' _ ⟨acc, h1, h2, h3⟩ => hl A i H' acc h2 h3) ?_ (fun H' ⟨acc, h1, h2, h3⟩ => hd A H' acc h1 h2 h3)
  rintro i x H' hx ⟨acc, hl, hA', hP⟩
  exact hs A i x H' acc hx hl hA' hP
theorem forq_list {K : PySem.W.Frag} {a : Addr} {xs : List V} {g : TG} {tb : TS} {D : Ends} {σ : L2.St} {H : Hp} (Pv : Nat → L2.St → Hp → Prop) (h0 : Pv 0 σ H) (hl : ∀ i σ H, i ≤ xs.length → Pv i σ H → SqL K H a xs)
    (hs : ∀ i x σ H, xs[i]? = some x → Pv i σ H → g x σ H fun σ2 H2 => tb { D with nx := Pv (i + 1), ct := Pv (i + 1), bk := D.nx } σ2 H2) (hd : ∀ σ H, Pv xs.length σ H → D.nx σ H) : ForQ (Itl K a) g tb D σ H := for_list Pv h0 hl hs hd
theorem forq_tup {K : PySem.W.Frag} {a : Addr} {xs : List V} {g : TG} {tb : TS} {D : Ends} {σ : L2.St} {H : Hp} (Pv : Nat → L2.St → Hp → Prop) (h0 : Pv 0 σ H) (hl : ∀ i σ H, i ≤ xs.length → Pv i σ H → SqT K H a xs)
    (hs : ∀ i x σ H, xs[i]? = some x → Pv i σ H → g x σ H fun σ2 H2 => tb { D with nx := Pv (i + 1), ct := Pv (i + 1), bk := D.nx } σ2 H2) (hd : ∀ σ H, Pv xs.length σ H → D.nx σ H) : ForQ (Itt K a) g tb D σ H := for_tup Pv h0 hl hs hd
/-! ### all, any; unpacking a list; three at once -/
theorem i_all {bs : List Bool} {a : Addr} (hl : SqL K H a (bs.map V.bl)) (h : Q (.bl (bs.all id)) H) : rAll K [.ref a] H Q := ⟨a, bs, rfl, hl, h⟩
theorem i_any {bs : List Bool} {a : Addr} (hl : SqL K H a (bs.map V.bl)) (h : Q (.bl (bs.any id)) H) : rAny K [.ref a] H Q := ⟨a, bs, rfl, hl, h⟩
theorem i_unl {n : Nat} {t : TGs} {a : Addr} {xs : List V} {σ : L2.St} {R : L2.St → Hp → Prop} (hx : SqL K H a xs) (hl : xs.length = n) (h : t xs σ H R) : gUnl K n t (.ref a) σ H R := ⟨a, xs, rfl, hx, hl, h⟩
theorem i_par3 {i j l : Nat} {ta : TA} (h : ta σ H fun vs H1 => ∃ u v w, vs = [u, v, w] ∧ D.nx (((σ.set i (some u)).set j (some v)).set l (some w)) H1) : tPar3 i j l ta D σ H := h
theorem i_three {x y z : V} {P : V → V → V → Prop} (h : P x y z) : ∃ u v w, [x, y, z] = [u, v, w] ∧ P u v w := ⟨x, y, z, rfl, h⟩
end
end My

/-! what the helpers of one law promise: sources compared -/
namespace My
open PySem PySem.Spec PyProof.Rows L2
section
variable {X : Cx}
def rReprB : List V → Hp → VK → Prop := fun xs H Q => ∃ b, xs = [.bl b] ∧ Q (.str (if b then "True" else "False")) H
theorem op_eqK {K : PySem.W.Frag} (hu : X.A.units + 64 < cLine) (hK : X.K = K) : OpR X (compareOp .Eq) (rEqD K) := by
  subst hK
  exact op_eqD hu
theorem pg_tupK {K : PySem.W.Frag} {es : List Expr} {i n : Nat} {pos : Pos} {t : TGs} (hc : X.calm = true) (hK : X.K = K) (h : PGs X es t) (hn : (assignEach es X.env).length = n := by rfl) (hs : List.findIdx? (fun x => x.fst) (assignEach es X.env) = none := by rfl) : PG X (.Tuple es i pos) (gTup K n t) := by
  subst hK
  exact pg_tup hc h hn hs
theorem cr_reprB : CallR X (.builtin "repr") rReprB := by
  intro pins s σ H xs us Q I r h
  obtain ⟨b, rfl, q⟩ := h
  cases r with
  | cons r1 rr =>
    cases rr
    cases r1
    exact PySem.P.repr_of_bool ⟨.str _, H, I.tok _, ⟨_, rfl⟩, q⟩
end
section
variable {H : Hp} {Q : VK}
theorem i_reprB {b : Bool} (h : Q (.str (if b then "True" else "False")) H) : rReprB [.bl b] H Q := ⟨b, rfl, h⟩
theorem i_neS {x y : Str} (e : x = y) (h : Q (.bl false) H) : rNe (.str x) (.str y) H Q := ⟨rfl, by rw [e, decide_eq_true rfl]; exact h⟩
end
theorem div_nnI {a b : Int} (ha : 0 ≤ a) (hb : 0 < b) : (0 : Rat) ≤ (a : Rat) / (b : Rat) := div_nn (by exact_mod_cast ha) (by exact_mod_cast hb)
theorem i_eqB {H : Hp} {Q : VK} {a b : Int} (h1 : a = b → Q (.bl true) H) (h2 : ¬ a = b → Q (.bl false) H) : rEq (.int a) (.int b) H Q :=
  if e : a = b then i_eqT e (h1 e) else i_eqF e (h2 e)
theorem sz_zero : Sz 1 0 := ⟨by decide, by decide⟩
theorem ite_d2 {c A B : Prop} [Decidable c] (h1 : c → A) (h2 : ¬ c → B) : if decide c = true then A else B :=
  if e : c then ite_d e (h1 e) else ite_dn e (h2 e)
theorem not_less {x y : Rat} : (!decide (x < y)) = (true && decide (y ≤ x)) := by
  rw [Bool.true_and, ← decide_not, decide_eq_decide]
  exact Rat.not_lt
abbrev spLess (K : PySem.W.Frag) : Sp := spCmp K fun p q => decide (p < q)
/-- a pair of ratios: volts, ohms -/
def PairAt (K : PySem.W.Frag) (H : Hp) (s : Addr) (v r : Rat) : Prop := ∃ a b, SqT K H s [.ref a, .ref b] ∧ SqT K H a (rat v) ∧ SqT K H b (rat r) ∧ 0 ≤ v ∧ 0 ≤ r
section
variable {K : PySem.W.Frag} {H H' : Hp} {s p : Addr} {v r : Rat}
theorem PairAt.same (h : PairAt K H s v r) (S : Same H H') : PairAt K H' s v r := by
  obtain ⟨a, b, h1, h2, h3, h4⟩ := h
  exact ⟨a, b, S.seqT h1, S.seqT h2, S.seqT h3, h4⟩
theorem PairAt.but {n : Int} (h : PairAt K H s v r) (hP : Pot H p n) (B : But p H H') : PairAt K H' s v r := by
  obtain ⟨a, b, h1, h2, h3, h4⟩ := h
  exact ⟨a, b, hP.but B h1, hP.but B h2, hP.but B h3, h4⟩
end
theorem PairAt.butL {K : PySem.W.Frag} {H H' : Hp} {s p : Addr} {v r : Rat} {ys : List V} (h : PairAt K H s v r) (hp : H p = some (.lst ys)) (B : But p H H') : PairAt K H' s v r := by
  obtain ⟨a, b, h1, h2, h3, h4⟩ := h
  exact ⟨a, b, seqT_but hp B h1, seqT_but hp B h2, seqT_but hp B h3, h4⟩
theorem Sz.read {j : Nat} {v r g : Rat} (h1 : Sz j v) (h2 : Sz j r) (h3 : Sz j g) (hr : 0 ≤ r) (hg : 0 ≤ g) : Sz (8 * j + 6) (v / (1 + r * g)) :=
  ((h1.mono (by omega)).div (h2.weak h3) (one_pos hr hg)).mono (by omega)
def spRead (K : PySem.W.Frag) : Sp := fun vs H Q _ => ∃ (a s : Addr) (g v r : Rat) (j : Nat), vs = [.ref a, .ref s] ∧ SqT K H a (rat g) ∧ PairAt K H s v r ∧ 0 ≤ g ∧ Sz j g ∧ Sz j v ∧ Sz j r ∧ j ≤ 400 ∧
  ∀ (p : Addr) (H' : Hp), Same H H' → H p = none → H' p = some (.tup (rat (v / (1 + r * g)))) → Q (.ref p) H'
def spFair (K : PySem.W.Frag) : Sp := fun vs H Q _ => ∃ (p : Addr) (n : Int), vs = [.ref p] ∧ Pot H p n ∧ n < 900000 ∧
  ∀ (a : Addr) (H' : Hp) (q : Rat), But p H H' → Pot H' p (n + 5) → H a = none → SqT K H' a (rat q) → 0 ≤ q → Sz 20 q → Q (.ref a) H'
def spNear (K : PySem.W.Frag) : Sp := fun vs H Q _ => ∃ (p s : Addr) (n : Int) (v r : Rat) (j : Nat), vs = [.ref p, .ref s] ∧ Pot H p n ∧ n < 800000 ∧ PairAt K H s v r ∧ Sz j v ∧ Sz j r ∧ 20 ≤ j ∧ j ≤ 200 ∧
  ∀ (a : Addr) (H' : Hp) (w u : Rat), But p H H' → Pot H' p (n + 20) → PairAt K H' a w u → Sz (j + j) w → Sz (j + j) u → Q (.ref a) H'
def spIsStrong (K : PySem.W.Frag) : Sp := fun vs H Q _ => ∃ (s t : Addr) (v r w u : Rat) (j : Nat), vs = [.ref s, .ref t] ∧ PairAt K H s v r ∧ PairAt K H t w u ∧ Sz j v ∧ Sz j r ∧ Sz j w ∧ Sz j u ∧ j ≤ 400 ∧
  ∀ H', Same H H' → Q (.bl (strong v r w u)) H'
/-- loads beside which one reads less than other -/
def Weak (K : PySem.W.Frag) (H : Hp) (v r w u : Rat) (x : V) : Prop := ∃ a g, x = .ref a ∧ SqT K H a (rat g) ∧ 0 ≤ g ∧ Sz 40 g ∧ v / (1 + r * g) < w / (1 + u * g)
theorem Weak.same {K : PySem.W.Frag} {H H' : Hp} {v r w u : Rat} {x : V} (h : Weak K H v r w u x) (S : Same H H') : Weak K H' v r w u x := by
  obtain ⟨a, g, e, h1, h2⟩ := h
  exact ⟨a, g, e, S.seqT h1, h2⟩
theorem Weak.butL {K : PySem.W.Frag} {H H' : Hp} {p : Addr} {ys : List V} {v r w u : Rat} {x : V} (h : Weak K H v r w u x) (hp : H p = some (.lst ys)) (B : But p H H') : Weak K H' v r w u x := by
  obtain ⟨a, g, e, h1, h2⟩ := h
  exact ⟨a, g, e, seqT_but hp B h1, h2⟩
theorem rat_int (i : Int) : [V.int i, V.int 1] = rat (i : Rat) := rfl
theorem sz_int {i : Int} {k : Nat} (h : i.natAbs < 2 ^ k) (hk : 0 < k) : Sz k (i : Rat) := ⟨h, Nat.one_lt_pow (by omega) (by decide)⟩
def spWeakLoads (K : PySem.W.Frag) : Sp := fun vs H Q _ => ∃ (s t : Addr) (v r w u : Rat) (j : Nat), vs = [.ref s, .ref t] ∧ PairAt K H s v r ∧ PairAt K H t w u ∧ Sz j v ∧ Sz j r ∧ Sz j w ∧ Sz j u ∧ j ≤ 100 ∧
  ∀ (l : Addr) (H' : Hp) (xs : List V), Same H H' → H l = none → H' l = some (.lst xs) → xs.length ≤ 100 → (∀ x ∈ xs, Weak K H' v r w u x) → Q (.ref l) H'
def spTwo (K : PySem.W.Frag) : Sp := fun vs H Q _ => ∃ (p s t : Addr) (n : Int) (v r w u : Rat), vs = [.ref p, .ref s, .ref t] ∧ Pot H p n ∧ n < 800000 ∧ PairAt K H s v r ∧ PairAt K H t w u ∧ Sz 100 v ∧ Sz 100 r ∧ Sz 100 w ∧ Sz 100 u ∧
  ∀ H', But p H H' → Pot H' p (n + 20) → Q (.bl true) H'
/-- one round of a law: the pot may be drawn from, the answer is True -/
def spRound (m : Int) : Sp := fun vs H Q _ => ∃ (p : Addr) (n : Int), vs = [.ref p] ∧ Pot H p n ∧ n < 100000 ∧ ∀ H', But p H H' → Pot H' p (n + m) → Q (.bl true) H'
def spLaw (K : PySem.W.Frag) : Sp := fun vs H Q _ => ∃ (a : Addr) (ns : List Int), vs = [.ref a] ∧ SqL K H a (ns.map V.int) ∧ ns.length ≤ 63 ∧ ∀ H', Q (.bl true) H'
theorem strong_self {v r : Rat} : strong v r v r = true := by
  unfold strong
  rw [decide_eq_true (Rat.le_refl (a := v)), decide_eq_true (Rat.le_refl (a := v * r))]
  rfl
theorem strong_iff {v r w u : Rat} : strong v r w u = true ↔ w ≤ v ∧ w * r ≤ v * u := by
  unfold strong
  rw [Bool.and_eq_true, decide_eq_true_iff, decide_eq_true_iff]
theorem div_mul_self {p q : Rat} (hq : 0 < q) : p / q * q = p := by
  have : q ≠ 0 := fun z => by rw [z] at hq; exact absurd hq (by decide)
  grind
theorem cross_lt {a b c d : Rat} (hb : 0 < b) (hd : 0 < d) : a / b < c / d ↔ a * d < c * b := by
  rw [Rat.div_lt_iff hb]
  have e : c / d * b = c * b / d := by grind
  rw [e, Rat.lt_div_iff hd]
theorem cross_eq {a b c d : Rat} (hb : 0 < b) (hd : 0 < d) : a / b = c / d ↔ a * d = c * b := by
  have h1 : b ≠ 0 := fun z => by rw [z] at hb; exact absurd hb (by decide)
  have h2 : d ≠ 0 := fun z => by rw [z] at hd; exact absurd hd (by decide)
  grind
theorem due_read {v r w u g : Rat} (h : strong v r w u = true) (hr : 0 ≤ r) (hu : 0 ≤ u) (hg : 0 ≤ g) : ¬ v / (1 + r * g) < w / (1 + u * g) := by
  obtain ⟨h1, h2⟩ := strong_iff.mp h
  rw [cross_lt (one_pos hr hg) (one_pos hu hg), Rat.not_lt]
  have := Rat.mul_le_mul_of_nonneg_right h2 hg
  have e1 : w * (1 + r * g) = w + w * r * g := by grind
  have e2 : v * (1 + u * g) = v + v * u * g := by grind
  rw [e1, e2]
  grind
theorem both_iff {v r w u : Rat} (h : strong v r w u = true) (hr : 0 ≤ r) (hu : 0 ≤ u) : strong w u v r = (decide (v / (1 + r * 0) = w / (1 + u * 0)) && (decide (v / (1 + r * 1) = w / (1 + u * 1)) && decide (v / (1 + r * 2) = w / (1 + u * 2)))) := by
  obtain ⟨h1, h2⟩ := strong_iff.mp h
  have c0 := cross_eq (a := v) (c := w) (one_pos hr (g := 0) (by decide)) (one_pos hu (g := 0) (by decide))
  have c1 := cross_eq (a := v) (c := w) (one_pos hr (g := 1) (by decide)) (one_pos hu (g := 1) (by decide))
  have c2 := cross_eq (a := v) (c := w) (one_pos hr (g := 2) (by decide)) (one_pos hu (g := 2) (by decide))
  rw [Bool.eq_iff_iff, strong_iff, Bool.and_eq_true, Bool.and_eq_true, decide_eq_true_iff, decide_eq_true_iff, decide_eq_true_iff, c0, c1, c2]
  constructor
  · rintro ⟨h3, h4⟩
    have e1 := Rat.le_antisymm h1 h3
    have e2 := Rat.le_antisymm h2 h4
    refine ⟨?_, ?_, ?_⟩ <;> grind
  · rintro ⟨h3, h4, -⟩
    have e1 : v = w := by grind
    have e2 : v * u = w * r := by grind
    exact ⟨by rw [e1]; exact Rat.le_refl, by rw [e2]; exact Rat.le_refl⟩
theorem rat_inj {p q : Rat} : (decide (p.num = q.num) && decide ((p.den : Int) = (q.den : Int))) = decide (p = q) := by
  rw [Bool.eq_iff_iff, Bool.and_eq_true, decide_eq_true_iff, decide_eq_true_iff, decide_eq_true_iff]
  constructor
  · rintro ⟨h1, h2⟩
    exact Rat.ext h1 (by exact_mod_cast h2)
  · rintro rfl
    exact ⟨rfl, rfl⟩
theorem i_eqBl {H : Hp} {Q : VK} {a b : Bool} (h : Q (.bl (a == b)) H) : rEq (.bl a) (.bl b) H Q := ⟨rfl, by
  have e : decide (V.bl a = V.bl b) = (a == b) := by cases a <;> cases b <;> decide
  rw [e]
  exact h⟩
theorem i_eqDR {K : PySem.W.Frag} {H : Hp} {Q : VK} {a b : Addr} {p q : Rat} (ha : SqT K H a (rat p)) (hb : SqT K H b (rat q)) (h : Q (.bl (decide (p = q))) H) : rEqD K (.ref a) (.ref b) H Q := by
  refine ⟨.tuple [.int p.num, .int p.den], .tuple [.int q.num, .int q.den], .tup ha (.cons (.int _) (.cons (.int _) .nil)), .tup hb (.cons (.int _) (.cons (.int _) .nil)), rfl, rfl, ?_⟩
  have e : PyData.eqv (.tuple [.int p.num, .int p.den]) (.tuple [.int q.num, .int q.den]) = decide (p = q) := by
    rw [← rat_inj]
    simp [PyData.eqv, PyData.eqvAll]
    rfl
  rw [e]
  exact h
theorem i_srcCmp {K : PySem.W.Frag} {C : Addr} {H : Hp} {Q : VK} {f : Rat → Rat → Rat → Rat → Bool} {s t : Addr} {v r w u : Rat} {j : Nat} (A1 : SrcAt K C H s v r) (A2 : SrcAt K C H t w u) (zv : Sz j v) (zr : Sz j r) (zw : Sz j w) (zu : Sz j u) (hj : j ≤ 800)
    (k : ∀ H', Same H H' → Q (.bl (f v r w u)) H') : rOwn C (spSrcCmp K C f) (.ref s) (.ref t) H Q := by
  obtain ⟨d1, a1, b1, e1, _⟩ := id A1
  obtain ⟨d2, a2, b2, e2, _⟩ := id A2
  exact ⟨_, _, _, _, _, _, rfl, rfl, e1, e2, _, _, _, _, _, _, j, rfl, A1, A2, zv, zr, zw, zu, hj, k⟩
theorem strong_trans {v1 r1 v2 r2 v3 r3 : Rat} (h12 : strong v1 r1 v2 r2 = true) (h23 : strong v2 r2 v3 r3 = true) (p1 : 0 ≤ v1) (p2 : 0 ≤ v2) (p3 : 0 ≤ v3) (q3 : 0 ≤ r3) : strong v1 r1 v3 r3 = true := by
  obtain ⟨a1, a2⟩ := strong_iff.mp h12
  obtain ⟨b1, b2⟩ := strong_iff.mp h23
  refine strong_iff.mpr ⟨Rat.le_trans b1 a1, ?_⟩
  rcases Rat.le_iff_lt_or_eq.mp p2 with hp | hz
  · refine Rat.not_lt.mp fun z => ?_
    have c1 := Rat.mul_le_mul_of_nonneg_right a2 p3
    have c2 := Rat.mul_le_mul_of_nonneg_right b2 p1
    have c3 := Rat.mul_lt_mul_of_pos_right z hp
    grind
  · have e : v3 = 0 := Rat.le_antisymm (by rw [← hz] at b1; exact b1) p3
    rw [e, Rat.zero_mul]
    exact Rat.mul_nonneg p1 q3
theorem SrcAt.butL {K : PySem.W.Frag} {C : Addr} {H H' : Hp} {s p : Addr} {v r : Rat} {ys : List V} (h : SrcAt K C H s v r) (hp : H p = some (.lst ys)) (B : But p H H') : SrcAt K C H' s v r := by
  obtain ⟨dx, a, b, h1, h2, h3, h4⟩ := h
  exact ⟨dx, a, b, B _ _ (fun e => by rw [e, hp] at h1; cases h1) h1, seqT_but hp B h2, seqT_but hp B h3, h4⟩
theorem Pot.butA {H H' : Hp} {p A : Addr} {n : Int} (hP : Pot H p n) (h : p ≠ A) (B : But A H H') : Pot H' p n := by
  obtain ⟨x, y, z, hp, hh⟩ := hP
  exact ⟨x, y, z, B _ _ h hp, hh⟩
theorem Pot.ne {H : Hp} {p A : Addr} {n : Int} (hP : Pot H p n) (h : H A = none) : p ≠ A := by
  obtain ⟨_, _, _, hp, _⟩ := hP
  exact ne_of_none hp h
theorem rgV_at {j i : Nat} {x : V} (h : (rgV 0 j)[i]? = some x) : x = .int i ∧ i < j := by
  unfold rgV at h
  rw [List.getElem?_map] at h
  have e : ((j : Int) - 0).toNat = j := by omega
  rw [e] at h
  rcases Nat.lt_or_ge i j with hi | hi
  · rw [List.getElem?_range hi] at h
    have h2 : V.int (0 + (i : Int)) = x := Option.some.inj h
    rw [← h2, Int.zero_add]
    exact ⟨rfl, hi⟩
  · rw [List.getElem?_eq_none (by rw [List.length_range]; exact hi)] at h
    cases h
end My

/-! own layer, 7: sources put together -/
namespace My
open PySem PySem.Spec PyProof.Rows L2
/-- two sources, a new source of them -/
def spSrc2 (K : PySem.W.Frag) (C : Addr) (pre : Rat → Rat → Prop) (fv fr : Rat → Rat → Rat → Rat → Rat) : Sp := fun vs H Q _ => ∃ (s t : Addr) (v r w u : Rat) (j : Nat), vs = [.ref s, .ref t] ∧ SrcAt K C H s v r ∧ SrcAt K C H t w u ∧ Sz j v ∧ Sz j r ∧ Sz j w ∧ Sz j u ∧ j ≤ 400 ∧ pre r u ∧
  ∀ (p : Addr) (H' : Hp), Same H H' → H p = none → SrcAt K C H' p (fv v r w u) (fr v r w u) → Q (.ref p) H'
abbrev spSrcAdd (K : PySem.W.Frag) (C : Addr) : Sp := spSrc2 K C (fun _ _ => True) (fun v _ w _ => v + w) (fun _ r _ u => r + u)
abbrev spSrcAnd (K : PySem.W.Frag) (C : Addr) : Sp := spSrc2 K C (fun r u => 0 < r + u) (fun v r w u => (v * u + w * r) / (r + u)) (fun _ r _ u => r * u / (r + u))
def spSrcEq (K : PySem.W.Frag) (C : Addr) : Sp := fun vs H Q _ => ∃ (s t : Addr) (v r w u : Rat), vs = [.ref s, .ref t] ∧ SrcAt K C H s v r ∧ SrcAt K C H t w u ∧ ∀ H', Same H H' → Q (.bl (decide (v = w) && decide (r = u))) H'
/-- so many times a source -/
def spMany (K : PySem.W.Frag) (C : Addr) : Sp := fun vs H Q _ => ∃ (s : Addr) (m : Int) (v r : Rat) (j : Nat), vs = [.ref s, .int m] ∧ SrcAt K C H s v r ∧ 0 ≤ m ∧ m.natAbs < 2 ^ j ∧ Sz j v ∧ Sz j r ∧ 0 < j ∧ j ≤ 400 ∧
  ∀ (p : Addr) (H' : Hp), Same H H' → H p = none → SrcAt K C H' p (v * (m : Rat)) r → Q (.ref p) H'
theorem add_nn {p q : Rat} (hp : 0 ≤ p) (hq : 0 ≤ q) : 0 ≤ p + q := Rat.add_nonneg hp hq
theorem num_zero {p : Rat} (h : 0 < p) : ¬ p.num = 0 := by
  have := pos_num h
  omega
section
variable {K : PySem.W.Frag} {H : Hp} {Q : VK} {C : Addr} {s t : Addr} {v r w u : Rat} {j : Nat}
theorem i_src2 {pre : Rat → Rat → Prop} {fv fr : Rat → Rat → Rat → Rat → Rat} (A1 : SrcAt K C H s v r) (A2 : SrcAt K C H t w u) (zv : Sz j v) (zr : Sz j r) (zw : Sz j w) (zu : Sz j u) (hj : j ≤ 400) (hp : pre r u)
    (k : ∀ (p : Addr) (H' : Hp), Same H H' → H p = none → SrcAt K C H' p (fv v r w u) (fr v r w u) → Q (.ref p) H') : rOwn C (spSrc2 K C pre fv fr) (.ref s) (.ref t) H Q := by
  obtain ⟨d1, a1, b1, e1, _⟩ := id A1
  obtain ⟨d2, a2, b2, e2, _⟩ := id A2
  exact ⟨_, _, _, _, _, _, rfl, rfl, e1, e2, _, _, _, _, _, _, j, rfl, A1, A2, zv, zr, zw, zu, hj, hp, k⟩
end
end My

/-! own layer, 8: operators of an own instance and an integer -/
namespace My
open PySem PySem.Spec PyProof.Rows L2
theorem lk {M : Model} {A : Around} {α β : Type} {t : Sem α} {r : α} {f : α → Sem β} {Q : β → Shared → Prop} {E : Value → Shared → Prop} {s : Shared} (hl : PySem.W.Looks M s.heap t r) (h : wpAny M A (f r) Q E s) : wpAny M A (t >>= f) Q E s := wpAny_bind (hl.here h)
theorem lkp {M : Model} {A : Around} {α β : Type} {t : Sem α} {r : α} {f : α → Sem β} {Q : β → Shared → Prop} {E : Value → Shared → Prop} {s : Shared} (hl : t = pure r) (h : wpAny M A (f r) Q E s) : wpAny M A (t >>= f) Q E s := lk (.of_pure hl) h
/-- x op i of an own instance and an integer; i op x, reflected -/
def rOwnI (C : Addr) (sp : Sp) : R2 := fun x y H Q => ∃ (i : Int) (a dx : Addr) (fs : List (Str × V)), x = .ref a ∧ y = .int i ∧ H a = some (.ins C dx fs) ∧ sp [x, y] H Q E0
def rOwnR (C : Addr) (sp : Sp) : R2 := fun x y H Q => ∃ (i : Int) (a dx : Addr) (fs : List (Str × V)), x = .int i ∧ y = .ref a ∧ H a = some (.ins C dx fs) ∧ sp [y, x] H Q E0
/-- what is asked of a class that is multiplied with integers -/
structure MulI (K : PySem.W.Frag) (C : Addr) : Prop where
  m : ∃ g, PySem.W.findIn K (.ref C) "__mul__" = some (some (.ref g))
  r : ∃ g, PySem.W.findIn K (.ref C) "__rmul__" = some (some (.ref g))
  fo : ∃ x, PySem.W.findIn K (.type "int") "__mul__" = some x
  ro : ∃ x, PySem.W.findIn K (.type "int") "__rmul__" = some x
  s1 : PySem.W.subIn K (.type "int") (.ref C) = some false
  s2 : PySem.W.subIn K (.ref C) (.type "int") = some false
section
variable {X : Cx} {CX : CXT} {k : Nat} {m qual : Str} {st : Stmt} {sp : Sp} {C : Addr}
theorem op_ownI (g : GOp X.K C "__mul__" qual st) (F : FnAt X.prog X.w X.K X.mg X.base CX k (He.ma X.K C "__mul__") ["self", "other"] sp) (hr : Room k X.A) (hc : PySem.W.selfFirst X.K C = true) (y : MulI X.K C)
    (hx : Passes CX X E0 := by first | exact pass0 | exact passL) : OpR X (binaryOp .Mult) (rOwnI C sp) := by
  intro pins s σ H x y' v u Q I rx ry h
  obtain ⟨i, a, dx, fs, rfl, rfl, ha, hsp⟩ := h
  cases rx
  obtain ⟨tk, rfl⟩ := ry
  obtain ⟨mA, J, _⟩ := ins_get I.hok ha
  obtain ⟨od, J, _⟩ := J.look
  obtain ⟨mm, hF⟩ := I.fr
  obtain ⟨g1, y1⟩ := y.r
  obtain ⟨x1, y2⟩ := y.fo
  obtain ⟨x2, y3⟩ := y.ro
  refine PySem.W.ksp_binT (T := "int") hF I.ok.mod.kin J rfl hc g.at_ g.fn y1 (.inr ⟨g1, rfl⟩) y2 y3 y.s1 ?_
  exact thn (run_fn (vs := [.ref a, .int i]) F hr g.b .nil hx I (.cons rfl (.cons ⟨tk, rfl⟩ .nil)) hsp) fun r s' q => back_of q
theorem op_ownR (g : GOp X.K C "__rmul__" qual st) (F : FnAt X.prog X.w X.K X.mg X.base CX k (He.ma X.K C "__rmul__") ["self", "other"] sp) (hr : Room k X.A) (hc : PySem.W.selfFirst X.K C = true) (y : MulI X.K C)
    (hx : Passes CX X E0 := by first | exact pass0 | exact passL) : OpR X (binaryOp .Mult) (rOwnR C sp) := by
  intro pins s σ H x y' v u Q I rx ry h
  obtain ⟨i, a, dx, fs, rfl, rfl, ha, hsp⟩ := h
  obtain ⟨tk, rfl⟩ := rx
  cases ry
  obtain ⟨mA, J, _⟩ := ins_get I.hok ha
  obtain ⟨od, J, _⟩ := J.look
  obtain ⟨mm, hF⟩ := I.fr
  have hK : X.K.In s.heap := fun b o e => hF.keep b o (I.ok.mod.kin b o e)
  obtain ⟨g1, y1⟩ := y.m
  obtain ⟨cd, rest, hcl, hmro⟩ := PySem.W.ksp_first hc
  unfold binaryOp
  refine wpAny_holding ?_
  refine wpAny_bind ?_
  unfold binaryOp1
  refine lkp (r := .type "int") rfl ?_
  refine lk J.type ?_
  refine lkp PyProof.Rows.fills_int_mul ?_
  have e : (Value.type "int" == Value.ref C) = false := rfl
  simp only [e]
  refine lk (PySem.W.fills_K hK hcl hmro y1) ?_
  rw [if_pos (show (true && true) = true from rfl)]
  refine lk (PySem.W.looks_subIn hK y.s2) ?_
  rw [if_neg (show ¬ (false = true) from Bool.false_ne_true)]
  rw [if_pos (show (true && true && !false) = true from rfl)]
  refine lkp (r := false) rfl ?_
  rw [if_neg (show ¬ (false = true) from Bool.false_ne_true)]
  rw [if_pos (show True from trivial)]
  refine wpAny_bind ?_
  unfold tryMethod
  refine wpAny_bind ?_
  refine wpAny_callSpecial?_slot (T := "int") rfl PyProof.Rows.slot_int_mul ?_
  refine wpAny_call_entry (b := Builtin.«int.__mul__») PyProof.Rows.slot_int_mul rfl PyProof.Rows.entry_int_mul ?_
  · unfold Builtin.«int.__mul__» Builtin.Int.intBinary
    refine lkp (r := (Value.int i tk, [Value.ref a])) rfl ?_
    refine lkp (r := i) rfl ?_
    have hl : PySem.W.Looks (model X.prog X.w) s.heap (asInt? (Value.ref a)) none := .andThen (.ld J.at_) .now
    refine lk hl ?_
    refine (PySem.W.Looks.tag .now).here ⟨_, rfl, ?_⟩
    refine (PySem.W.Looks.now (a := (none : Option Value))).here ?_
    show wpAny _ _ (if false = true then _ else _) _ _ _
    rw [if_neg (show ¬ (false = true) from Bool.false_ne_true)]
    rw [if_pos (show (true && !false) = true from rfl)]
    refine wpAny_bind ?_
    refine thn (PySem.W.ksp_try hK J g.at_ g.fn (thn (run_fn (vs := [.ref a, .int i]) F hr g.b .nil hx I (.cons rfl (.cons ⟨tk, rfl⟩ .nil)) hsp) fun r s' q => back_of q)) fun r s' hq => ?_
    obtain ⟨v, rfl, q⟩ := hq
    refine (PySem.W.Looks.tag .now).here ?_
    exact PySem.W.Looks.now.here q
end
end My

/-! own layer, 9: != by an own == -/
namespace My
open PySem PySem.Spec PyProof.Rows L2
theorem ns_at {K : PySem.W.Frag} {h : Heap} {N : Addr} {x : Str} {r : Option Value} (hK : K.In h) (e : PySem.W.nsIn K N x = some r) : h.nsMap N x = r := by
  unfold PySem.W.nsIn at e
  split at e
  · rename_i oc od es ep sl hl
    have g := hK _ _ hl
    unfold Heap.nsMap
    rw [g]
    show nsFind es x = r
    unfold nsFind findBy
    rw [← Array.find?_toList]
    split at e
    · rename_i q hq
      rw [hq]
      exact Option.some.inj e
    · rename_i hq
      rw [hq]
      split at e
      · cases e
      · exact Option.some.inj e
  · cases e
/-- what != asks of a class with an own __eq__ and no __ne__ -/
def neB (K : PySem.W.Frag) (C : Addr) : Bool := match K.lookup C with
  | some ⟨.type "type", _, .cls cd, sl⟩ => match cd.mro, sl.toList with
    | [.ref C', .type o], [_, _, _, _, some (.builtin _), _] => C' == C && (o == "object" && (!cd.hasDel && (PySem.W.nsOkIn K cd.ns && (He.eqO (PySem.W.nsIn K cd.ns "__eq__") (some (some (.ref (He.ma K C "__eq__")))) && He.eqO (PySem.W.nsIn K cd.ns "__ne__") (some none)))))
    | _, _ => false
  | _ => false
theorem neB_ok {K : PySem.W.Frag} {h : Heap} {C x : Addr} {ox of : Obj} (hK : K.In h) (nb : neB K C = true) (hf : h.get? (He.ma K C "__eq__") = some of) (hc : of.cls = .type "function") (hx : h.get? x = some ox) (hxc : ox.cls = .ref C) : h.OwnEqNoNe x C (He.ma K C "__eq__") "object" [.type "object"] := by
  unfold neB at nb
  split at nb
  · rename_i dd cd sl hl
    split at nb
    · rename_i C' o k0 k1 k2 k3 nw k5 hm hs
      obtain ⟨e1, nb⟩ := He.ba nb
      obtain ⟨e2, nb⟩ := He.ba nb
      obtain ⟨e3, nb⟩ := He.ba nb
      obtain ⟨e4, nb⟩ := He.ba nb
      obtain ⟨e5, e6⟩ := He.ba nb
      have e1 := eq_of_beq e1
      have e2 := eq_of_beq e2
      subst e1 e2
      have hsl : sl = #[k0, k1, k2, k3, some (.builtin nw), k5] := by
        rw [← Array.toArray_toList (xs := sl), hs]
      have g := hK _ _ hl
      rw [hsl] at g
      obtain ⟨nm, bs, mro, ns, q, hd, sn, sub, ab, col, del⟩ := cd
      simp only at hm e3 e4 e5 e6 g
      subst hm
      have e3 : del = false := by
        cases del
        · rfl
        · cases e3
      subst e3
      exact ⟨ox, of, nm, q, ns, bs, hd, sn, sub, ab, col, dd, k0, k1, k2, k3, k5, nw, h.nsMap ns, _, hx, hxc, g, Heap.Ns.of_isNs (PySem.W.isNs_of_in hK e4), ns_at hK (He.eqO_ok e5), hf, hc, PySem.F.cmp_object.mro, PySem.F.cmp_object.eq.lookup, ns_at hK (He.eqO_ok e6)⟩
    · cases nb
  · cases nb
/-- the same place, one row deeper -/
abbrev in1 (X : Cx) : Cx := { X with A := X.A.in1 }
section
variable {X : Cx} {CX : CXT} {k : Nat} {m qual : Str} {st : Stmt} {sp : Sp} {C : Addr}
theorem inv_up {pins : List (Addr × Obj)} {σ : L2.St} {H : Hp} {s : Shared} (I : L2.Inv X pins σ H s) : L2.Inv (in1 X) pins σ H s :=
  ⟨⟨I.ok.mod, I.ok.kind, I.ok.glob, I.ok.blt, I.ok.above, I.ok.inj, I.ok.has, I.ok.cab, I.ok.hd, I.ok.frames, I.ok.stk, I.ok.exf, I.ok.bs, I.ok.bsz, I.ok.noex, I.ok.exfs, I.ok.funs, I.ok.frf⟩, I.os, I.bare, I.base, I.loc, I.cell, I.free, I.freeC, I.pin, I.hok, I.len⟩
theorem inv_dn {pins : List (Addr × Obj)} {σ : L2.St} {H : Hp} {s : Shared} (I : L2.Inv (in1 X) pins σ H s) : L2.Inv X pins σ H s :=
  ⟨⟨I.ok.mod, I.ok.kind, I.ok.glob, I.ok.blt, I.ok.above, I.ok.inj, I.ok.has, I.ok.cab, I.ok.hd, I.ok.frames, I.ok.stk, I.ok.exf, I.ok.bs, I.ok.bsz, I.ok.noex, I.ok.exfs, I.ok.funs, I.ok.frf⟩, I.os, I.bare, I.base, I.loc, I.cell, I.free, I.freeC, I.pin, I.hok, I.len⟩
/-- x != y of two instances of one class: not its own == -/
def rOwnN (C : Addr) (sp : Sp) : R2 := fun x y H Q => ∃ a b dx dy fs gs, x = .ref a ∧ y = .ref b ∧ H a = some (.ins C dx fs) ∧ H b = some (.ins C dy gs) ∧ sp [x, y] H (fun v H' => ∃ k, v = .bl k ∧ Q (.bl (!k)) H') E0
theorem ne_own (nb : neB X.K C = true) (g : GOp X.K C "__eq__" qual st) (F : FnAt X.prog X.w X.K X.mg X.base CX k (He.ma X.K C "__eq__") ["self", "other"] sp) (hr : Room (k + 1) X.A)
    (hx : Passes CX X E0 := by first | exact pass0 | exact passL) : OpR X (compareOp .NotEq) (rOwnN C sp) := by
  intro pins s σ H x y v u Q I rx ry h
  obtain ⟨a, b, dx, dy, fs, gs, rfl, rfl, ha, hb, hsp⟩ := h
  cases rx
  cases ry
  obtain ⟨mA, J, _⟩ := ins_get I.hok ha
  obtain ⟨mB, J', _⟩ := ins_get I.hok hb
  obtain ⟨od, J, _⟩ := J.look
  obtain ⟨od', J', _⟩ := J'.look
  obtain ⟨mm, hF⟩ := I.fr
  have hK : X.K.In s.heap := fun b o e => hF.keep b o (I.ok.mod.kin b o e)
  have hu : X.A.units + 1 < cLine := by have := hr.un; omega
  obtain ⟨of, hf, hc⟩ : ∃ of, s.heap.get? (He.ma X.K C "__eq__") = some of ∧ of.cls = .type "function" := by
    have h := g.fn
    unfold PySem.W.isFn at h
    have h := eq_of_beq h
    obtain ⟨oc, od, kV, doc, pm, an, cdv, ct, osl, e, hl, hcd⟩ := g.f.ex
    have h : Option.map (fun x => x.cls) (List.lookup (He.ma X.K C "__eq__") X.K) = some (.type "function") := h
    rw [hl] at h
    exact ⟨_, hK _ _ hl, Option.some.inj h⟩
  refine compareOp_ne_ownEq (h := s.heap) PySem.F.cmp_object (neB_ok hK nb hf hc J.at_ J.cls) J'.at_ J'.cls hu ?_
  have hx1 : Passes CX (in1 X) E0 := fun pins σ H s e s' I' c => hx pins σ H s e s' (inv_dn I') c
  refine thn (run_fn (X := in1 X) (vs := [.ref a, .ref b]) F hr.in1 g.b .nil hx1 (inv_up I) (.cons rfl (.cons rfl .nil)) hsp) fun r s' q => ?_
  obtain ⟨v, H', I', rv, ⟨k, rfl, q⟩⟩ := q
  exact ⟨k, rv, ⟨.bl (!k), H', inv_dn I', rfl, q⟩⟩
end
def refB : Option (Option Value) → Bool
  | some (some (.ref _)) => true
  | _ => false
theorem refB_ok {o : Option (Option Value)} (h : refB o = true) : ∃ g, o = some (some (.ref g)) := by
  unfold refB at h
  split at h
  · exact ⟨_, rfl⟩
  · cases h
def mulB (K : PySem.W.Frag) (x : Str) : Bool := refB (PySem.W.findIn K (.ref (He.ga K x)) "__mul__") && (refB (PySem.W.findIn K (.ref (He.ga K x)) "__rmul__") && ((PySem.W.findIn K (.type "int") "__mul__").isSome && ((PySem.W.findIn K (.type "int") "__rmul__").isSome &&
  (decide (PySem.W.subIn K (.type "int") (.ref (He.ga K x)) = some false) && decide (PySem.W.subIn K (.ref (He.ga K x)) (.type "int") = some false)))))
theorem mulB_ok {K : PySem.W.Frag} {x : Str} (h : mulB K x = true) : MulI K (He.ga K x) := by
  obtain ⟨h1, h⟩ := He.ba h
  obtain ⟨h2, h⟩ := He.ba h
  obtain ⟨h3, h⟩ := He.ba h
  obtain ⟨h4, h⟩ := He.ba h
  obtain ⟨h5, h6⟩ := He.ba h
  exact ⟨refB_ok h1, refB_ok h2, Option.isSome_iff_exists.mp h3, Option.isSome_iff_exists.mp h4, of_decide_eq_true h5, of_decide_eq_true h6⟩
section
variable {K : PySem.W.Frag} {H : Hp} {Q : VK} {C : Addr} {s t : Addr} {v r w u : Rat} {j : Nat}
theorem i_srcNe (A1 : SrcAt K C H s v r) (A2 : SrcAt K C H t w u) (k : ∀ H', Same H H' → Q (.bl (!(decide (v = w) && decide (r = u)))) H') : rOwnN C (spSrcEq K C) (.ref s) (.ref t) H Q := by
  obtain ⟨d1, a1, b1, e1, _⟩ := id A1
  obtain ⟨d2, a2, b2, e2, _⟩ := id A2
  exact ⟨_, _, _, _, _, _, rfl, rfl, e1, e2, _, _, _, _, _, _, rfl, A1, A2, fun H' S => ⟨_, rfl, k H' S⟩⟩
theorem i_srcEq (A1 : SrcAt K C H s v r) (A2 : SrcAt K C H t w u) (k : ∀ H', Same H H' → Q (.bl (decide (v = w) && decide (r = u))) H') : rOwn C (spSrcEq K C) (.ref s) (.ref t) H Q := by
  obtain ⟨d1, a1, b1, e1, _⟩ := id A1
  obtain ⟨d2, a2, b2, e2, _⟩ := id A2
  exact ⟨_, _, _, _, _, _, rfl, rfl, e1, e2, _, _, _, _, _, _, rfl, A1, A2, k⟩
theorem i_manyI {m : Int} (A1 : SrcAt K C H s v r) (m0 : 0 ≤ m) (mz : m.natAbs < 2 ^ j) (zv : Sz j v) (zr : Sz j r) (j0 : 0 < j) (hj : j ≤ 400) (k : ∀ (p : Addr) (H' : Hp), Same H H' → H p = none → SrcAt K C H' p (v * (m : Rat)) r → Q (.ref p) H') : rOwnI C (spMany K C) (.ref s) (.int m) H Q := by
  obtain ⟨d1, a1, b1, e1, _⟩ := id A1
  exact ⟨m, _, _, _, rfl, rfl, e1, _, m, v, r, j, rfl, A1, m0, mz, zv, zr, j0, hj, k⟩
theorem i_manyR {m : Int} (A1 : SrcAt K C H s v r) (m0 : 0 ≤ m) (mz : m.natAbs < 2 ^ j) (zv : Sz j v) (zr : Sz j r) (j0 : 0 < j) (hj : j ≤ 400) (k : ∀ (p : Addr) (H' : Hp), Same H H' → H p = none → SrcAt K C H' p (v * (m : Rat)) r → Q (.ref p) H') : rOwnR C (spMany K C) (.int m) (.ref s) H Q := by
  obtain ⟨d1, a1, b1, e1, _⟩ := id A1
  exact ⟨m, _, _, _, rfl, rfl, e1, _, m, v, r, j, rfl, A1, m0, mz, zv, zr, j0, hj, k⟩
end
end My

/-! own layer, 10: defs that write values out (no guard stands when they are called) -/
namespace My
open PySem PySem.Spec PyProof.Rows L2
structure FnG (P : Program) (w : World) (K : PySem.W.Frag) (mg : Str → Option Value) (base : Heap) (CX : CXT) (k : Nat) (f : Addr) (fd : FuncData) (ps : List Str) (sp : Sp) : Prop where
  len : ∀ vs H Q E, sp vs H Q E → vs.length = ps.length
  run : ∀ A outer s H args us vs Q E, A.guards = some [] → Room k A → Env0 P w K mg base A outer s H → BindsTo s fd args (ps.zip us) → Vals vs us → sp vs H Q E →
    codeAny (model P w) A (Code.call (.ref f) args) (CR CX outer P w H s Q E) s
section
variable {CX : CXT} {P : Program} {w : World} {K : PySem.W.Frag} {mg : Str → Option Value} {base : Heap} {k : Nat} {f : Addr} {name qual : Str} {params : Arguments} {body : List Stmt} {scope : Scope} {dV kV doc pm cdv ct oc : Value} {an od : Option Addr} {osl : Array (Option Value)} {N ps : List Str} {sp : Sp}
theorem fn_ofG (lk : K.lookup f = some ⟨oc, od, .func (PySem.W.fnOf name qual params body scope dV kV doc pm an cdv ct), osl⟩) (hcd : PySem.W.codeIn K cdv qual = true) (S : FnScope N ps scope) (len : ∀ vs H Q E, sp vs H Q E → vs.length = ps.length)
    (hbody : ∀ (A : Around) (outer : List Env) (s : Shared) (H : Hp) (vs : List V) (Q : VK) (E : XK), A.guards = some [] → Room k (A.deeper (envOfC qual scope s.heap.objs.size f cdv)) → sp vs H Q E →
      ∃ t, PSs (cxOf CX P w K mg base N qual scope f cdv A outer s H E) body t ∧ t { nx := fun _ H' => Q .non H', rt := Q } (L2.start N vs) H) :
    FnG P w K mg base CX (k + 1) f (PySem.W.fnOf name qual params body scope dV kV doc pm an cdv ct) ps sp := by
  refine ⟨len, fun A outer s H args us vs Q E hgd hr e0 hb r hsp => ?_⟩
  have hl := len vs H Q E hsp
  have KX : K.In s.heap := fun b o e => (e0.bs b o (e0.mod.kin b o e)).1
  have lim := e0.mod.nolimit.keeps fun b o e => (e0.bs b o e).1
  refine codeAny_call_function hr.depth (KX f _ lk) rfl S.co S.gen rfl (PySem.W.codeRec_of KX hcd) ?_
  refine hb _ _ _ _ ?_
  refine wpAny_newFunctionEnv_cells S.kind ?_ ?_
  · rintro ⟨n, v⟩ hy
    rcases S.par n (List.of_mem_zip hy).1 with q | q
    · exact .inl q
    · exact .inr ⟨q, PySem.W.cellsFrom_some scope.names (s.heap.objs.size + 1) [] (.inl q)⟩
  · intro env he s1 x
    subst he
    refine ⟨lim.keeps x.toInCall.keep, codeAny_func ?_⟩
    obtain ⟨t, ht, hq⟩ := hbody A outer s H vs Q E hgd (hr.deeper _) hsp
    have I := inv_start (CX := CX) (E := E) S hr.hd e0 hl r x
    refine wpAny_mono (ht.run [] s1 (L2.start N vs) H _ I hq) (fun fl s' hs => ?_) fun e s' hs => hs
    cases fl with
    | ret u =>
      obtain ⟨v, σ', H', J, rv, q⟩ := hs
      exact ⟨v, H', J.os, J.bare, J.base, J.hok, rv, q⟩
    | next =>
      obtain ⟨σ', H', J, q⟩ := hs
      exact ⟨.non, H', J.os, J.bare, J.base, J.hok, rfl, q⟩
    | brk =>
      obtain ⟨_, _, _, q⟩ := hs
      exact q.elim
    | cont =>
      obtain ⟨_, _, _, q⟩ := hs
      exact q.elim
end
section
variable {X : Cx} {CX : CXT} {k : Nat} {f : Addr} {fd : FuncData} {ps : List Str} {sp : Sp} {dvs : List V} {ds : List Value} {E : XK} {pins : List (Addr × Obj)} {σ : L2.St} {H : Hp} {s : Shared} {Q : VK} {us : List Value} {vs : List V}
theorem run_fnG (F : FnG X.prog X.w X.K X.mg X.base CX k f fd ps sp) (hgd : X.A.guards = some []) (hr : Room k X.A) (hb : L2.Binds X.K fd ps ds) (hd : Vals dvs ds) (hx : Passes CX X E) (I : L2.Inv X pins σ H s) (r : Vals vs us) (h : sp (vs ++ dvs) H Q E) :
    wpAny (model X.prog X.w) X.A (call (.ref f) us) (EP X pins σ Q) X.xe s := by
  have r2 := Vals.append r hd
  have hl : (us ++ ds).length = ps.length := by
    rw [← Vals.length r2]
    exact F.len _ _ _ _ h
  refine wpAny_call (codeAny_mono (F.run X.A X.stack s H ⟨us, []⟩ (us ++ ds) (vs ++ dvs) Q E hgd hr I.env0 (hb s us I.kIn hl) r2 h) fun r s' hq => ?_)
  cases r with
  | error e => exact hx pins σ H s e s' I hq
  | ok fl =>
    cases fl with
    | ret v => exact I.after hq
    | _ => exact False.elim hq
variable {x m qual : Str} {st : Stmt} {p pos : Pos} {e : Expr} {es : List Expr} {t : TA}
abbrev FnGAt (P : Program) (w : World) (K : PySem.W.Frag) (mg : Str → Option Value) (base : Heap) (CX : CXT) (k : Nat) (a : Addr) (ps : List Str) (sp : Sp) : Prop := FnG P w K mg base CX k a (fdOf K a) ps sp
theorem pe_fnG (g : GFn X.K X.mg x st ps) (F : FnGAt X.prog X.w X.K X.mg X.base CX k (He.ga X.K x) ps sp) (hgd : X.A.guards = some []) (hr : Room k X.A) (ha : PA X (e :: es) t) (hx : Passes CX X E := by first | exact pass0 | exact passL) (hg : Gl X x := by rfl)
    (hdb : (x == ("__debug__" : Str)) = false := by decide) (he : starEach (e :: es) X.env = (false, eval e X.env) :: starEach es X.env := by rfl) (hpl : (backTo pos (starEach es X.env)).any (·.1) = false := by rfl) :
    PE X (.Call (.Name x p) (e :: es) [] pos) (tCall sp [] E t) := by
  refine ⟨fun pins s σ H Q I h => ?_⟩
  refine wpAny_Call_Name_kw ?_
  refine ld_glob I hg g.m ?_ hdb
  refine PySem.W.callWith_K I.ok.mod.kin g.f.kp (thn (ha.run pos pins s σ H (fun vs H1 => sp (vs ++ []) H1 Q E) I h) ?_) he hpl
  rintro us s1 ⟨vs, H1, I1, r, q⟩
  exact ⟨I1.kIn, run_fnG F hgd hr g.b .nil hx I1 r q⟩
/-- repr of data -/
def rReprD (K : PySem.W.Frag) : List V → Hp → VK → Prop := fun xs H Q => ∃ (a : Addr) (d : PyData), xs = [.ref a] ∧ Dp K H (.ref a) d ∧ d.showable = true ∧ d.hasDict = false ∧ d.depth < 100 ∧ d.shown.length ≤ sizeLine ∧ Q (.str d.shown) H
theorem cr_reprD (hgd : X.A.guards = some []) (hr : Room k X.A) : CallR X (.builtin "repr") (rReprD X.K) := by
  intro pins s σ H xs us Q I r h
  obtain ⟨a, d, rfl, hd, h1, h2, h3, h4, q⟩ := h
  cases r with
  | cons r1 rr =>
    cases rr
    cases r1
    obtain ⟨as, R⟩ := Dp.reads I d _ _ hd rfl
    have hu := hr.un
    have hz : X.A.units + (d.depth + 1) < cLine := Nat.lt_of_le_of_lt (by omega : X.A.units + (d.depth + 1) ≤ X.A.units + 16 * k + 200) hu
    have hdn : d.hasDict = true → ¬ sysModules ∈ as := fun z => by rw [h2] at z; cases z
    refine repr_of_reads' R h1 hdn hgd hz (fun _ _ e => e) (fun h' u tk hk => ?_) h4
    exact ⟨.str d.shown, H, I.kept hk, ⟨u, rfl⟩, q⟩
end
section
variable {P : Program} {w : World} {K : PySem.W.Frag} {mg mb : Str → Option Value} {k : Nat} {fa a : Addr} {fd : FuncData} {x : Str} {sp : Sp} {s₁ : Shared} {vs : List Value} {ns : List Int}
/-- the list that a law is asked with -/
abbrev scriptO (vs : List Value) : Obj := ⟨.type "list", none, .seq vs.toArray 0, #[]⟩
theorem callG_core (KX : K.In s₁.heap) (hns : s₁.heap.Ns mainGlobals mg) (hb : s₁.heap.Ns builtinsNs mb) (hbb : ∀ x : Str, x ≠ "__name__" → mb x = bootBuiltins x) (hlim : s₁.heap.NoLimit) (hg : s₁.gens = #[]) (ha : s₁.heap.get? a = some (scriptO vs)) (hr : Room k callerA)
    (F : ∀ base : Heap, K.In base → base.Ns mainGlobals mg → FnG P w K mg base CX0 k fa fd [x] sp) (hbind : ∀ (s : Shared) (u : Value), BindsTo s fd ⟨[u], []⟩ [(x, u)]) {H : Hp} (hO : Only H) (hq : sp [.ref a] H (fun v _ => v = .bl true) E0) (hok : HOk P w H s₁.heap) (hA : ∀ b, H b ≠ none → b = a) (hK : H a ≠ none → K.lookup a = none) :
    codeAny (model P w) callerA (Code.call (.ref fa) ⟨[.ref a], []⟩) (fun r s' => r = Except.ok (Flow.ret (.bool true)) ∧ OldK s₁.heap s'.heap ∧ s'.os = s₁.os ∧ AllBare s'.gens) s₁ := by
  have at_ : ∀ {b : Addr} {o : Obj}, s₁.heap.get? b = some o → H b = none → (hidT s₁.heap H).get? b = some o := fun e n => hidT_get e n
  have noA : ∀ {b : Addr} {o : Obj} {es : Array DictEntry} {ep : Nat}, s₁.heap.get? b = some o → o.data = .dict es ep → H b = none := by
    intro b o es ep e d
    cases h : H b with
    | none => rfl
    | some u =>
      obtain rfl := hA b (by rw [h]; intro z; cases z)
      rw [ha] at e
      cases e
      cases d
  have nsK : ∀ {b : Addr} {m : Str → Option Value}, s₁.heap.Ns b m → (hidT s₁.heap H).Ns b m := by
    rintro b m ⟨o, es, ep, e, d, r⟩
    exact ⟨o, es, ep, at_ e (noA e d), d, r⟩
  have hKb : K.In (hidT s₁.heap H) := by
    intro b o e
    refine at_ (KX b o e) ?_
    cases h : H b with
    | none => rfl
    | some u =>
      have hn : H b ≠ none := by rw [h]; intro z; cases z
      obtain rfl := hA b hn
      rw [hK hn] at e
      cases e
  have hM : L2.Mod K mg (hidT s₁.heap H) := ⟨hKb, nsK hns, ⟨mb, nsK hb, hbb⟩, by obtain ⟨mc, h1, h2⟩ := hlim; exact ⟨mc, nsK h1, h2⟩⟩
  have e0 : Env0 P w K mg (hidT s₁.heap H) callerA [] s₁ H := ⟨rfl, hM, fun b o e => of_hidT e, Nat.le_of_eq (hidT_size _ _), trivial, (fun b z => by cases z), hok, AllBare.of_eq hg⟩
  refine codeAny_mono ((F _ hKb (nsK hns)).run callerA [] s₁ H ⟨[.ref a], []⟩ [.ref a] [.ref a] (fun v _ => v = .bl true) E0 rfl hr e0 (hbind s₁ (.ref a)) (.cons rfl .nil) hq) fun r s' h => ?_
  cases r with
  | error e => exact False.elim h
  | ok fl =>
    cases fl with
    | ret u =>
      obtain ⟨v, H', os, bare, un, hok', r', q⟩ := h
      subst q
      cases r'
      refine ⟨rfl, OldK.of_keep fun b o e => ?_, os, bare⟩
      cases h : H b with
      | none => exact un.keep b o e h (fun z => by cases z) (fun z => by cases z)
      | some u =>
        rcases hO b with z | ⟨ob, xs, z⟩
        · rw [h] at z
          cases z
        · have h1 := (hok b _ z).1
          have h2 := (hok' b _ (un.frzs _ _ _ z)).1
          rw [e] at h1
          cases h1
          exact h2
    | _ => exact False.elim h
theorem law_callG (KX : K.In s₁.heap) (hns : s₁.heap.Ns mainGlobals mg) (hb : s₁.heap.Ns builtinsNs mb) (hbb : ∀ x : Str, x ≠ "__name__" → mb x = bootBuiltins x) (hlim : s₁.heap.NoLimit) (hg : s₁.gens = #[]) (ha : s₁.heap.get? a = some (scriptO vs)) (hr : Room k callerA)
    (F : ∀ base : Heap, K.In base → base.Ns mainGlobals mg → FnG P w K mg base CX0 k fa fd [x] sp) (hbind : ∀ (s : Shared) (u : Value), BindsTo s fd ⟨[u], []⟩ [(x, u)]) (hi : IntsAre vs ns) (hl : ns.length ≤ sizeLine) (hsp : ∀ H, Only H → SqL K H a (ns.map V.int) → sp [.ref a] H (fun v _ => v = .bl true) E0) :
    codeAny (model P w) callerA (Code.call (.ref fa) ⟨[.ref a], []⟩) (fun r s' => r = Except.ok (Flow.ret (.bool true)) ∧ OldK s₁.heap s'.heap ∧ s'.os = s₁.os ∧ AllBare s'.gens) s₁ := by
  have rv := vals_ints hi
  have lenV := IntsAre.length hi
  cases h : K.lookup a with
  | none =>
    have hH : ∀ b, (fun b => if b = a then some (HO.frz (scriptO vs) (.lst (ns.map V.int))) else none : Hp) b = none ∨ b = a := by
      intro b
      by_cases hb : b = a
      · exact .inr hb
      · exact .inl (if_neg hb)
    have hO : Only (fun b => if b = a then some (HO.frz (scriptO vs) (.lst (ns.map V.int))) else none) := by
      intro b
      rcases hH b with z | z
      · exact .inl z
      · exact .inr ⟨_, _, if_pos z⟩
    refine callG_core KX hns hb hbb hlim hg ha hr F hbind hO (hsp _ hO (.inl (.inr ⟨_, if_pos rfl⟩))) ?_ ?_ (fun _ => h)
    · intro b u z
      rcases hH b with e | e
      · rw [e] at z
        cases z
      · subst e
        have z : some (HO.frz (scriptO vs) (.lst (ns.map V.int))) = some u := (if_pos rfl).symm.trans z
        cases z
        exact ⟨ha, by rw [List.length_map]; exact hl, vs, 0, rv, ha⟩
    · intro b z
      rcases hH b with e | e
      · exact absurd e z
      · exact e
  | some o =>
    have e := KX a o h
    rw [ha] at e
    cases e
    have hO : Only (fun _ => none) := fun _ => .inl rfl
    refine callG_core KX hns hb hbb hlim hg ha hr F hbind hO (hsp _ hO (.inr ⟨_, vs.toArray, 0, h, rfl, rfl, rfl, ?_, rv⟩)) (fun b u z => by cases z) (fun b z => absurd rfl z) (fun z => absurd rfl z)
    rw [List.size_toArray, lenV]
    exact hl
end
theorem walk_ofG {l : PySem.W.OpenLaw} {n k : Nat} {q : Program} {loose : List Str} {XP : (Str → Option Value) → Heap → Prop} {YP : World → Heap → Prop} {d : DefRec} {x : Str} (hn : l.most = some n) (hn2 : n ≤ sizeLine) (hdf : d.params.defaults = []) (hr : Room k callerA)
    (F : ∀ (w : World) (mg : Str → Option Value) (fa : Addr) (h : Heap), YP w h → h.Ns mainGlobals mg → mg d.name = some (.ref fa) → ∃ (K : PySem.W.Frag) (fd : FuncData) (sp : Sp), K.In h ∧ (∀ (s : Shared) (u : Value), BindsTo s fd ⟨[u], []⟩ [(x, u)]) ∧
      (∀ (H : Hp) (a : Addr) (ns : List Int), ns.length ≤ n → Only H → SqL K H a (ns.map V.int) → sp [.ref a] H (fun v _ => v = .bl true) E0) ∧ ∀ base : Heap, K.In base → base.Ns mainGlobals mg → FnG l.prog w K mg base CX0 k fa fd [x] sp) :
    PySem.W.WalkO q loose XP YP l.row.toRowW d [] fun f vs => call f vs := by
  refine Att.attach_call hn hdf fun w s₀ s₁ mg mb fa o pm cd doc a vs ns G Y ho hd hcd hmg hobj hints hlen hg => ?_
  obtain ⟨K, fd, sp, KX, hb, hsp, hF⟩ := F w mg fa s₁.heap Y G.T.g hmg
  exact law_callG KX G.T.g G.T.b G.T.builtins G.T.nolimit hg hobj hr hF hb hints (Nat.le_trans hlen hn2) fun H hO hS => hsp H a ns hlen hO hS
theorem int_repr_le {i : Int} {k : Nat} (hk : 0 < k) (h : i.natAbs < 2 ^ k) : i.repr.length ≤ k + 1 := by
  cases i with
  | ofNat n => exact Nat.le_succ_of_le (nat_repr_length_le hk h)
  | negSucc n =>
    have h2 := nat_repr_length_le (n := n + 1) hk h
    show ("-" ++ Nat.repr (n + 1)).length ≤ k + 1
    rw [String.length_append]
    have e : ("-" : String).length = 1 := rfl
    omega
theorem shown2 (a b : Int) : (PyData.tuple [.int a, .int b]).shown = tupleText [Str.ofString a.repr, Str.ofString b.repr] := by
  simp [PyData.shown, PyData.shownAll]
theorem shown2_le {a b : Int} {k : Nat} (hk : 0 < k) (ha : a.natAbs < 2 ^ k) (hb : b.natAbs < 2 ^ k) : (PyData.tuple [.int a, .int b]).shown.length ≤ 2 * k + 9 := by
  rw [shown2]
  have h := tupleText_len_le [Str.ofString a.repr, Str.ofString b.repr]
  simp only [List.map, List.sum_cons, List.sum_nil, List.length, PySem.ofString_length] at h
  have h1 := int_repr_le hk ha
  have h2 := int_repr_le hk hb
  omega
theorem i_reprRat {K : PySem.W.Frag} {H : Hp} {Q : VK} {a : Addr} {p : Rat} {k : Nat} (hk : 0 < k) (hk2 : k ≤ 1900) (z : Sz k p) (ha : SqT K H a (rat p)) (h : Q (.str (PyData.tuple [.int p.num, .int p.den]).shown) H) : rReprD K [.ref a] H Q :=
  ⟨a, .tuple [.int p.num, .int p.den], rfl, .tup ha (.cons (.int _) (.cons (.int _) .nil)), by simp [PyData.showable, PyData.showableAll]; exact ⟨Nat.lt_of_lt_of_le (log_lt hk z.1) (by omega), Nat.lt_of_lt_of_le (log_lt hk z.2) (by omega)⟩, by simp [PyData.hasDict, PyData.hasDictAll], by simp [PyData.depth, PyData.depthAll], Nat.le_trans (shown2_le hk z.1 z.den) (Nat.le_trans (by omega : 2 * k + 9 ≤ 10000) (by decide +kernel)), h⟩
section
variable {P : Program} {w : World} {K : PySem.W.Frag} {mg : Str → Option Value} {base : Heap} {x qual : Str} {st : Stmt} {f : Addr} {fd : FuncData} {N ps : List Str} {k : Nat} {sp : Sp}
theorem fun_okG (F : Fun K x qual st f fd) (S : FnScope N ps (defScope st)) (len : ∀ vs H Q E, sp vs H Q E → vs.length = ps.length)
    (hb : ∀ (cdv : Value) (A : Around) (outer : List Env) (s : Shared) (H : Hp) (vs : List V) (Q : VK) (E : XK), A.guards = some [] → Room k (A.deeper (envOfC qual (defScope st) s.heap.objs.size f cdv)) → sp vs H Q E →
      ∃ t, PSs (cxOf CX0 P w K mg base N qual (defScope st) f cdv A outer s H E).nox (defBody st) t ∧ t { nx := fun _ H' => Q .non H', rt := Q } (L2.start N vs) H) : FnG P w K mg base CX0 (k + 1) f fd ps sp := by
  obtain ⟨oc, od, kV, doc, pm, an, cdv, ct, osl, e, hl, hc⟩ := F.ex
  subst e
  refine fn_ofG hl hc S len fun A outer s H vs Q E hg hr h => ?_
  obtain ⟨t, h1, h2⟩ := hb cdv A outer s H vs Q E hg hr h
  exact ⟨t, h1.nox, h2⟩
end
end My

/-! own layer, 6: what the written part holds, read off once -/
namespace My
open PySem PySem.Spec PyProof.Rows L2
/-- a def: where its function stands, what it is -/
structure Df where
  adr : PySem.W.Frag → Addr
  name : Str
  qual : Str
  st : Stmt
def Df.val (d : Df) : He.FnW := some (d.name, d.qual, defArgs d.st, .stmts (defBody d.st), defScope d.st, mainGlobals, [], builtinsNs)
def dfV (K : PySem.W.Frag) (d : Df) : He.FnW := match K.lookup (d.adr K) with
  | some ⟨_, _, .func fd, _⟩ => some (fd.name, fd.qualname, fd.params, fd.body, fd.scope, fd.globals, fd.closure, fd.builtins)
  | _ => none
def dfB (K : PySem.W.Frag) (d : Df) : Bool := PySem.W.keepIn K (.ref (d.adr K)) && match K.lookup (d.adr K) with
  | some ⟨_, _, .func fd, _⟩ => PySem.W.codeIn K fd.code d.qual && match fd.defaults with
    | .none => true
    | _ => false
  | _ => false
abbrev HV : Type := Bool × List He.FnW
def obsK (ex : PySem.W.Frag → Bool) (ds : List Df) (K : PySem.W.Frag) : HV := (ex K && ds.all (dfB K), ds.map (dfV K))
def valK (ds : List Df) : HV := (true, ds.map Df.val)
def frK (n : Nat) (g : Addr → Option Obj) : PySem.W.Frag := He.frT g (sysModules :: He.asD g n)
def hook (n : Nat) (ex : PySem.W.Frag → Bool) (ds : List Df) : PySem.W.Hook where
  α := HV
  obs s := obsK ex ds (frK n s.heap.get?)
  val _ := valK ds
  says _ h := ∃ K : PySem.W.Frag, K.In h ∧ obsK ex ds K = valK ds
  of _ s e := ⟨_, He.frT_in, e⟩
  keeps _ _ _ := fun ⟨K, i, c⟩ k => ⟨K, fun a o e => k a o (i a o e), c⟩
def obT (n : Nat) (ex : PySem.W.Frag → Bool) (ds : List Df) (s : PySem.W.SharedT) : HV := obsK ex ds (frK n (HandSHeadRun.getT s))
theorem obT_eq {n : Nat} {ex : PySem.W.Frag → Bool} {ds : List Df} (s : PySem.W.SharedT) : obT n ex ds s = (hook n ex ds).obs s.abs := by
  unfold obT
  rw [funext (HandSHeadRun.getT_eq s)]
  rfl
section
variable {K : PySem.W.Frag} {ex : PySem.W.Frag → Bool} {ds : List Df} {d : Df}
theorem says_ex (c : obsK ex ds K = valK ds) : ex K = true := (He.ba (congrArg Prod.fst c)).1
theorem says_fun (c : obsK ex ds K = valK ds) (i : Nat) (h : ds[i]? = some d) : Fun K d.name d.qual d.st (d.adr K) (fdOf K (d.adr K)) := by
  have e1 : dfB K d = true := List.all_eq_true.mp (He.ba (congrArg Prod.fst c)).2 d (List.mem_of_getElem? h)
  have e2 : dfV K d = d.val := by
    have e := congrArg (fun z : HV => z.2[i]?) c
    have e : (ds.map (dfV K))[i]? = (ds.map Df.val)[i]? := e
    rw [List.getElem?_map, List.getElem?_map, h] at e
    exact Option.some.inj e
  unfold dfB at e1
  obtain ⟨k1, k2⟩ := He.ba e1
  unfold dfV at e2
  split at e2
  · rename_i oc od fd osl hl
    rw [hl] at k2
    obtain ⟨k3, k4⟩ := He.ba k2
    have hd : fd.defaults = .none := by
      revert k4
      cases fd.defaults <;> intro k4 <;> first | rfl | cases k4
    have e3 := Option.some.inj e2
    simp only [Prod.mk.injEq] at e3
    obtain ⟨f1, f2, f3, f4, f5, f6, f7, f8⟩ := e3
    have ef : fdOf K (d.adr K) = fd := by
      unfold fdOf
      rw [hl]
    rw [ef]
    refine ⟨⟨oc, od, fd.kwdefaults, fd.doc, fd.pyModule, fd.annotations, fd.code, fd.closureTuple, osl, ?_, hl, k3⟩, k1⟩
    cases fd
    simp only at f1 f2 f3 f4 f5 f6 f7 f8 hd
    subst f1 f2 f3 f4 f5 f6 f7 f8 hd
    rfl
  · cases e2
/-- a def without defaults: by its written arguments -/
theorem fun_binds {x qual : Str} {st : Stmt} {f : Addr} {fd : FuncData} {ps : List Str} (F : Fun K x qual st f fd)
    (h : ∀ (kV doc pm : Value) (an : Option Addr) (cdv ct : Value) (us : List Value), us.length = ps.length → bindArgs (PySem.W.fnOf x qual (defArgs st) (defBody st) (defScope st) Value.none kV doc pm an cdv ct) { pos := us } = pure (ps.zip us)) : L2.Binds K fd ps [] := by
  obtain ⟨oc, od, kV, doc, pm, an, cdv, ct, osl, e, hl, hc⟩ := F.ex
  subst e
  exact Binds.all (h kV doc pm an cdv ct)
/-! what is asked beside He's facts -/
def insB (K : PySem.W.Frag) (x : Str) : Bool := He.eqO (PySem.W.findIn K (.ref (He.ga K x)) "__class__") (some (some (.builtin "object.__class__"))) && (He.eqO (PySem.W.specialIn K (.builtin "object.__class__") "__get__") (some (some (.builtin "getset_descriptor.__get__"))) &&
  (decide (PySem.W.takesIn K (.builtin "object.__class__") = some true) && decide (PySem.W.mroIn K (He.ga K x) (.type "object") = some true)))
theorem insB_ok {x : Str} (h : insB K x = true) : InsC K (He.ga K x) := by
  obtain ⟨h1, h⟩ := He.ba h
  obtain ⟨h2, h⟩ := He.ba h
  obtain ⟨h3, h4⟩ := He.ba h
  exact ⟨He.eqO_ok h1, He.eqO_ok h2, of_decide_eq_true h3, of_decide_eq_true h4⟩
def propB (K : PySem.W.Frag) (x m : Str) : Bool := He.eqO (PySem.W.findIn K (.ref (He.ga K x)) m) (some (some (.ref (He.ma K (He.ga K x) m)))) && (He.eqO (PySem.W.specialIn K (.ref (He.ma K (He.ga K x) m)) "__get__") (some (some (.builtin "property.__get__"))) &&
  (decide (PySem.W.takesIn K (.ref (He.ma K (He.ga K x) m)) = some true) && match PySem.W.recIn K (He.ma K (He.ga K x) m) "property" with
    | some (.ref _ :: _) => true
    | _ => false))
theorem propB_ok {x m : Str} (h : propB K x m = true) : PropOf K (He.ga K x) m (He.ma K (He.ga K x) m) (gtOf K (He.ma K (He.ga K x) m)) := by
  obtain ⟨h1, h⟩ := He.ba h
  obtain ⟨h2, h⟩ := He.ba h
  obtain ⟨h3, h4⟩ := He.ba h
  refine ⟨He.eqO_ok h1, He.eqO_ok h2, of_decide_eq_true h3, ?_⟩
  unfold gtOf
  split at h4
  · rename_i g rest e
    rw [e]
    exact ⟨rest, rfl⟩
  · cases h4
def bltB (K : PySem.W.Frag) (x : Str) (b : String) : Bool := He.eqO (PySem.W.nsIn K mainGlobals x) (some (some (.builtin b)))
theorem bltB_ok {h : Heap} {mg : Str → Option Value} (X : K.In h) (G : h.Ns mainGlobals mg) {x : Str} {b : String} (c : bltB K x b = true) : mg x = some (.builtin b) := PySem.W.mg_of X G (He.eqO_ok c)
theorem all_get {α : Type} {p : α → Bool} {l : List α} (h : l.all p = true) (i : Nat) {x : α} (e : l[i]? = some x) : p x = true := List.all_eq_true.mp h x (List.mem_of_getElem? e)
theorem gfn_of {mg : Str → Option Value} {h : Heap} {x : Str} {st : Stmt} {ps : List Str} (X : K.In h) (G : h.Ns mainGlobals mg) (c : He.Fa.ok K (.glo x) = true) (F : Fun K x x st (He.ga K x) (fdOf K (He.ga K x)))
    (b : ∀ (kV doc pm : Value) (an : Option Addr) (cdv ct : Value) (us : List Value), us.length = ps.length → bindArgs (PySem.W.fnOf x x (defArgs st) (defBody st) (defScope st) Value.none kV doc pm an cdv ct) { pos := us } = pure (ps.zip us)) : GFn K mg x st ps :=
  ⟨He.glo_ok X G c, F, fun_binds F b⟩
theorem gme_of {x m qual : Str} {st : Stmt} {ps : List Str} (c : He.Fa.ok K (.meth x m) = true) (F : Fun K m qual st (He.ma K (He.ga K x) m) (fdOf K (He.ma K (He.ga K x) m)))
    (b : ∀ (kV doc pm : Value) (an : Option Addr) (cdv ct : Value) (us : List Value), us.length = ps.length → bindArgs (PySem.W.fnOf m qual (defArgs st) (defBody st) (defScope st) Value.none kV doc pm an cdv ct) { pos := us } = pure (ps.zip us)) : GMe K (He.ga K x) m qual st ps :=
  ⟨He.meth_ok c, F, fun_binds F b⟩
theorem gop_of {x m qual : Str} {st : Stmt} (c : He.Fa.ok K (.meth x m) = true) (F : Fun K m qual st (He.ma K (He.ga K x) m) (fdOf K (He.ma K (He.ga K x) m)))
    (b : ∀ (kV doc pm : Value) (an : Option Addr) (cdv ct : Value) (us : List Value), us.length = 2 → bindArgs (PySem.W.fnOf m qual (defArgs st) (defBody st) (defScope st) Value.none kV doc pm an cdv ct) { pos := us } = pure ((["self", "other"] : List Str).zip us)) : GOp K (He.ga K x) m qual st :=
  ⟨(He.meth_ok c).at_, (He.meth_ok c).fn, F, fun_binds F b⟩
theorem gpr_of {x m qual : Str} {st : Stmt} (c : propB K x m = true) (F : Fun K m qual st (gtOf K (He.ma K (He.ga K x) m)) (fdOf K (gtOf K (He.ma K (He.ga K x) m))))
    (b : ∀ (kV doc pm : Value) (an : Option Addr) (cdv ct : Value) (us : List Value), us.length = 1 → bindArgs (PySem.W.fnOf m qual (defArgs st) (defBody st) (defScope st) Value.none kV doc pm an cdv ct) { pos := us } = pure ((["self"] : List Str).zip us)) : GPr K (He.ga K x) m qual st :=
  ⟨propB_ok c, F, fun_binds F b⟩
theorem gmk_of {mg : Str → Option Value} {h : Heap} {x : Str} (X : K.In h) (G : h.Ns mainGlobals mg) (c : He.Fa.ok K (.glo x) = true) (m : He.Fa.ok K (.mkr x) = true) : GMk K mg x := ⟨He.glo_ok X G c, He.mkr_ok m⟩
end
end My

/-! own layer, 11: small values of data in new objects, and their repr -/
namespace My
open PySem PySem.Spec PyProof.Rows L2
inductive Pw (R : V → PyData → Prop) : List V → List PyData → Prop
  | nil : Pw R [] []
  | cons {v : V} {vs : List V} {d : PyData} {ds : List PyData} : R v d → Pw R vs ds → Pw R (v :: vs) (d :: ds)
section
variable {R S : V → PyData → Prop} {xs : List V} {ds : List PyData}
theorem Pw.imp (h : ∀ v d, R v d → S v d) (p : Pw R xs ds) : Pw S xs ds := by
  induction p with
  | nil => exact .nil
  | cons a _ ih => exact .cons (h _ _ a) ih
theorem Pw.snoc {v : V} {d : PyData} (p : Pw R xs ds) (h : R v d) : Pw R (xs ++ [v]) (ds ++ [d]) := by
  induction p with
  | nil => exact .cons h .nil
  | cons a _ ih => exact .cons a ih
theorem Pw.len (p : Pw R xs ds) : xs.length = ds.length := by
  induction p with
  | nil => rfl
  | cons _ _ ih => simp [ih]
end
/-- a value that is no object -/
def Lf (v : V) (d : PyData) : Prop := (v = .non ∧ d = .none) ∨ (∃ b, v = .bl b ∧ d = .bool b) ∨ (∃ i : Int, v = .int i ∧ d = .int i ∧ i.natAbs < 2 ^ 40) ∨ ∃ x : Str, v = .str x ∧ d = .str x ∧ (reprText x).length ≤ 60
/-- a value of data, at most n deep, its objects at addresses of F -/
def Dv (F : Addr → Prop) (H : Hp) : Nat → V → PyData → Prop
  | 0 => Lf
  | n + 1 => fun v d => Lf v d ∨ ∃ a, v = .ref a ∧ F a ∧ ((∃ xs ds, d = .list ds ∧ H a = some (.lst xs) ∧ Pw (Dv F H n) xs ds ∧ xs.length ≤ 4) ∨ (∃ xs ds, d = .tuple ds ∧ H a = some (.tup xs) ∧ Pw (Dv F H n) xs ds ∧ xs.length ≤ 4) ∨
      (d = .dict [] ∧ H a = some (.dK [])) ∨ ∃ (k : Str) (v' : V) (d' : PyData), d = .dict [(.str k, d')] ∧ H a = some (.dK [(.inr k, v')]) ∧ Dv F H n v' d' ∧ (reprText k).length ≤ 60)
section
variable {F G : Addr → Prop} {H H' : Hp}
theorem Dv.imp (hF : ∀ a, F a → G a) (hH : ∀ a o, F a → H a = some o → H' a = some o) : ∀ (n : Nat) (v : V) (d : PyData), Dv F H n v d → Dv G H' n v d
  | 0, _, _, h => h
  | n + 1, v, d, h => by
    rcases h with h | ⟨a, e, f, h⟩
    · exact .inl h
    refine .inr ⟨a, e, hF a f, ?_⟩
    rcases h with ⟨xs, ds, e1, e2, p, l⟩ | ⟨xs, ds, e1, e2, p, l⟩ | ⟨e1, e2⟩ | ⟨k, v', d', e1, e2, p, l⟩
    · exact .inl ⟨xs, ds, e1, hH _ _ f e2, p.imp (Dv.imp hF hH n), l⟩
    · exact .inr (.inl ⟨xs, ds, e1, hH _ _ f e2, p.imp (Dv.imp hF hH n), l⟩)
    · exact .inr (.inr (.inl ⟨e1, hH _ _ f e2⟩))
    · exact .inr (.inr (.inr ⟨k, v', d', e1, hH _ _ f e2, Dv.imp hF hH n _ _ p, l⟩))
theorem Dv.up : ∀ (n : Nat) (v : V) (d : PyData), Dv F H n v d → Dv F H (n + 1) v d
  | 0, _, _, h => .inl h
  | n + 1, v, d, h => by
    rcases h with h | ⟨a, e, f, h⟩
    · exact .inl h
    refine .inr ⟨a, e, f, ?_⟩
    rcases h with ⟨xs, ds, e1, e2, p, l⟩ | ⟨xs, ds, e1, e2, p, l⟩ | ⟨e1, e2⟩ | ⟨k, v', d', e1, e2, p, l⟩
    · exact .inl ⟨xs, ds, e1, e2, p.imp (Dv.up n), l⟩
    · exact .inr (.inl ⟨xs, ds, e1, e2, p.imp (Dv.up n), l⟩)
    · exact .inr (.inr (.inl ⟨e1, e2⟩))
    · exact .inr (.inr (.inr ⟨k, v', d', e1, e2, Dv.up n _ _ p, l⟩))
theorem Dv.ups {n : Nat} {v : V} {d : PyData} (h : Dv F H n v d) : ∀ j, Dv F H (n + j) v d
  | 0 => h
  | j + 1 => Dv.up _ _ _ (h.ups j)
theorem Dv.same {n : Nat} {v : V} {d : PyData} (h : Dv F H n v d) (S : Same H H') : Dv F H' n v d := h.imp (fun _ f => f) (fun a o _ e => S a o e)
theorem Dv.but {n : Nat} {p : Addr} {v : V} {d : PyData} (h : Dv F H n v d) (hp : ¬ F p) (B : But p H H') : Dv F H' n v d := h.imp (fun _ f => f) (fun a o f e => B a o (fun z => hp (z ▸ f)) e)
theorem Dv.flat {n : Nat} {v : V} {d : PyData} (h : Dv F H n v d) : (∃ a, v = .ref a) ∨ Lf v d := by
  cases n with
  | zero => exact .inr h
  | succ n =>
    rcases h with h | ⟨a, e, _⟩
    · exact .inr h
    · exact .inl ⟨a, e⟩
end
/-! ### its size -/
def bd : Nat → Nat
  | 0 => 60
  | n + 1 => 4 * bd n + 100
theorem bd_ge : ∀ n, 60 ≤ bd n
  | 0 => Nat.le_refl _
  | n + 1 => by have := bd_ge n; show 60 ≤ 4 * bd n + 100; omega
theorem Lf.size {v : V} {d : PyData} (h : Lf v d) : d.showable = true ∧ d.depth = 0 ∧ d.shown.length ≤ 60 := by
  rcases h with ⟨_, rfl⟩ | ⟨b, _, rfl⟩ | ⟨i, _, rfl, hi⟩ | ⟨x, _, rfl, hx⟩
  · exact ⟨rfl, rfl, by decide +kernel⟩
  · cases b <;> exact ⟨rfl, rfl, by decide +kernel⟩
  · refine ⟨decide_eq_true (Nat.lt_of_lt_of_le (log_lt (k := 40) (by omega) hi) (by omega)), rfl, ?_⟩
    have := int_repr_le (k := 40) (by omega) hi
    show (Str.ofString i.repr).length ≤ 60
    rw [PySem.ofString_length]
    omega
  · exact ⟨rfl, rfl, hx⟩
theorem all_size {R : V → PyData → Prop} {n b : Nat} (hR : ∀ v d, R v d → d.showable = true ∧ d.depth ≤ n ∧ d.shown.length ≤ b) {xs : List V} {ds : List PyData} (p : Pw R xs ds) :
    PyData.showableAll ds = true ∧ PyData.depthAll ds ≤ n ∧ ((PyData.shownAll ds).map (·.length)).sum ≤ b * ds.length ∧ (PyData.shownAll ds).length = ds.length := by
  induction p with
  | nil => exact ⟨rfl, Nat.zero_le _, Nat.zero_le _, rfl⟩
  | @cons v vs d ds h _ ih =>
    obtain ⟨a1, a2, a3⟩ := hR v d h
    obtain ⟨b1, b2, b3, b4⟩ := ih
    refine ⟨by simp [PyData.showableAll, a1, b1], by simp only [PyData.depthAll]; omega, ?_, by simp [PyData.shownAll, b4]⟩
    simp only [PyData.shownAll, List.map_cons, List.sum_cons, List.length_cons, Nat.mul_add]
    omega
theorem Dv.size {F : Addr → Prop} {H : Hp} : ∀ (n : Nat) (v : V) (d : PyData), Dv F H n v d → d.showable = true ∧ d.depth ≤ n ∧ d.shown.length ≤ bd n
  | 0, v, d, h => by
    obtain ⟨a, b, c⟩ := Lf.size h
    exact ⟨a, by omega, c⟩
  | n + 1, v, d, h => by
    rcases h with h | ⟨a, e, f, h⟩
    · obtain ⟨a, b, c⟩ := Lf.size h
      exact ⟨a, by omega, Nat.le_trans c (bd_ge _)⟩
    have hb : bd (n + 1) = 4 * bd n + 100 := rfl
    rcases h with ⟨xs, ds, rfl, e2, p, l⟩ | ⟨xs, ds, rfl, e2, p, l⟩ | ⟨rfl, e2⟩ | ⟨k, v', d', rfl, e2, p, l⟩
    · obtain ⟨a1, a2, a3, a4⟩ := all_size (Dv.size n) p
      have hl := p.len
      have hm : bd n * ds.length ≤ bd n * 4 := Nat.mul_le_mul_left _ (by omega)
      have ht := listText_len_le (PyData.shownAll ds)
      refine ⟨by simpa [PyData.showable] using a1, by simp only [PyData.depth]; omega, ?_⟩
      show (listText (PyData.shownAll ds)).length ≤ _
      omega
    · obtain ⟨a1, a2, a3, a4⟩ := all_size (Dv.size n) p
      have hl := p.len
      have hm : bd n * ds.length ≤ bd n * 4 := Nat.mul_le_mul_left _ (by omega)
      have ht := tupleText_len_le (PyData.shownAll ds)
      refine ⟨by simpa [PyData.showable] using a1, by simp only [PyData.depth]; omega, ?_⟩
      show (tupleText (PyData.shownAll ds)).length ≤ _
      omega
    · refine ⟨rfl, by simp [PyData.depth, PyData.depthKv], ?_⟩
      have ht := dictText_len_le []
      show (dictText []).length ≤ _
      simp only [List.map_nil, List.sum_nil, List.length_nil] at ht
      omega
    · obtain ⟨a1, a2, a3⟩ := Dv.size n _ _ p
      refine ⟨by simp [PyData.showable, PyData.showableKv, a1], by simp only [PyData.depth, PyData.depthKv]; omega, ?_⟩
      have ht := dictText_len_le [PyData.shown (.str k) ++ ": " ++ PyData.shown d']
      show (dictText [PyData.shown (.str k) ++ ": " ++ PyData.shown d']).length ≤ _
      simp only [List.map_cons, List.map_nil, List.sum_cons, List.sum_nil, List.length_cons, List.length_nil, strLen_append] at ht
      have e1 : (PyData.shown (.str k)).length ≤ 60 := l
      have e3 : ((": " : String) : Str).length = 2 := rfl
      omega
/-! ### as it stands in the heap -/
/-- the dict of the modules is none of these objects -/
def SysD (K : PySem.W.Frag) : Prop := ∃ (c : Value) (x : Option Addr) (es : Array DictEntry) (ep : Nat) (sl : Array (Option Value)), K.lookup sysModules = some ⟨c, x, .dict es ep, sl⟩
section
variable {X : Cx} {pins : List (Addr × Obj)} {σ : L2.St} {F : Addr → Prop} {H : Hp} {s : Shared}
theorem readsAll_of {R : V → PyData → Prop} (hR : ∀ v d u, R v d → RelV v u → ∃ as, Reads s.heap u d as ∧ sysModules ∉ as) {xs : List V} {ds : List PyData} (p : Pw R xs ds) : ∀ {us : List Value}, Vals xs us → ∃ as, ReadsAll s.heap us ds as ∧ sysModules ∉ as := by
  induction p with
  | nil =>
    intro us r
    cases r
    exact ⟨_, .nil, by simp⟩
  | cons h _ ih =>
    intro us r
    cases r with
    | cons r1 r2 =>
      obtain ⟨as, q1, m1⟩ := hR _ _ _ h r1
      obtain ⟨bs, q2, m2⟩ := ih r2
      exact ⟨_, .cons q1 q2, by simp only [List.mem_append, not_or]; exact ⟨m1, m2⟩⟩
theorem Dv.reads (I : L2.Inv X pins σ H s) (hS : SysD X.K) : ∀ (n : Nat) (v : V) (d : PyData) (u : Value), Dv F H n v d → RelV v u → ∃ as, Reads s.heap u d as ∧ sysModules ∉ as := by
  have leaf : ∀ (v : V) (d : PyData) (u : Value), Lf v d → RelV v u → ∃ as, Reads s.heap u d as ∧ sysModules ∉ as := by
    intro v d u h r
    rcases h with ⟨rfl, rfl⟩ | ⟨b, rfl, rfl⟩ | ⟨i, rfl, rfl, _⟩ | ⟨x, rfl, rfl, _⟩
    · cases r
      exact ⟨_, .none, by simp⟩
    · cases r
      exact ⟨_, .bool b, by simp⟩
    · obtain ⟨t, rfl⟩ := r
      exact ⟨_, .int i t, by simp⟩
    · obtain ⟨t, rfl⟩ := r
      exact ⟨_, .str x t, by simp⟩
  intro n
  induction n with
  | zero => exact leaf
  | succ n ih =>
    intro v d u h r
    rcases h with h | ⟨a, rfl, f, h⟩
    · exact leaf v d u h r
    obtain rfl : u = Value.ref a := r
    rcases h with ⟨xs, ds, rfl, e2, p, l⟩ | ⟨xs, ds, rfl, e2, p, l⟩ | ⟨rfl, e2⟩ | ⟨k, v', d', rfl, e2, p, l⟩
    · obtain ⟨_, its, m, rv, ho⟩ := I.hok a _ e2
      obtain ⟨as, q, hm⟩ := readsAll_of ih p rv
      refine ⟨_, .list ho rfl rfl (by simpa using q), ?_⟩
      have na : sysModules ≠ a := by
        intro z
        obtain ⟨c, x, es, ep, sl, hk⟩ := hS
        have h1 := I.kIn _ _ hk
        rw [z, ho] at h1
        cases h1
      simp only [List.mem_cons, not_or]
      exact ⟨na, hm⟩
    · obtain ⟨its, rv, ⟨o, ho, hc, m, hd⟩, _⟩ := I.tuple (.inl (.inl e2) : SqT X.K H a xs)
      obtain ⟨as, q, hm⟩ := readsAll_of ih p rv
      exact ⟨_, .tuple ho hc hd (by simpa using q), hm⟩
    · obtain ⟨_, na, vs, kv, o, es, ep, ho, ⟨hc, _⟩, hd, _, hp, _⟩ := dk_of I.hok e2
      cases kv
      have hn : es.toList = [] := by
        cases h : es.toList with
        | nil => rfl
        | cons a b => rw [h] at hp; cases hp
      refine ⟨_, .dict (kvs := []) ho hc hd (by rw [hn]; exact .nil) (by rw [hn]; exact .nil), ?_⟩
      simp only [List.append_nil, List.mem_cons, List.not_mem_nil, or_false]
      exact fun z => by rw [z] at na; simp at na
    · obtain ⟨_, na, vs, kv, o, es, ep, ho, ⟨hc, _⟩, hd, _, hp, _⟩ := dk_of I.hok e2
      cases kv with
      | @cons x y _ _ hxy rest =>
        cases rest
        obtain ⟨hk, hv⟩ := hxy
        obtain ⟨yk, yv⟩ := y
        dsimp only at hk hv
        subst hk
        obtain ⟨e, hn, h1, h2⟩ : ∃ e, es.toList = [e] ∧ keyIs (.inr k) e.key = true ∧ e.val = yv := by
          cases h : es.toList with
          | nil => rw [h] at hp; cases hp
          | cons a b =>
            rw [h] at hp
            cases hp with
            | cons g1 g2 g3 =>
              cases g3
              exact ⟨a, rfl, g1, g2⟩
        obtain ⟨as, q, hm⟩ := ih _ _ _ p hv
        rcases keyIs_shape h1 with ⟨i, t, z, _⟩ | ⟨x, t, z, hx⟩
        · cases z
        cases z
        refine ⟨_, .dict (kvs := [(.str k, d')]) ho hc hd (by rw [hn]; exact .cons (by show Reads _ e.key _ _; rw [hx]; exact .str k t) .nil) (by rw [hn]; exact .cons (by show Reads _ e.val _ _; rw [h2]; exact q) .nil), ?_⟩
        simp only [List.nil_append, List.append_nil, List.cons_append, List.mem_cons, not_or]
        exact ⟨fun z => by rw [z] at na; simp at na, hm⟩
/-- repr of such a value -/
def rReprV : List V → Hp → VK → Prop := fun xs H Q => ∃ (v : V) (F : Addr → Prop) (n : Nat) (d : PyData), xs = [v] ∧ Dv F H n v d ∧ n ≤ 6 ∧ Q (.str d.shown) H
theorem cr_reprV {k : Nat} (hgd : X.A.guards = some []) (hr : Room k X.A) (hS : SysD X.K) : CallR X (.builtin "repr") rReprV := by
  intro pins s σ H xs us Q I r h
  obtain ⟨v, F, n, d, rfl, hd, hn, q⟩ := h
  obtain ⟨h1, h2, h3⟩ := Dv.size n v d hd
  have hz : d.shown.length ≤ sizeLine := by
    refine Nat.le_trans h3 (Nat.le_trans (?_ : bd n ≤ bd 6) (by decide +kernel))
    have st : ∀ j, bd j ≤ bd (j + 1) := fun j => by show bd j ≤ 4 * bd j + 100; omega
    have mono : ∀ {a b : Nat}, a ≤ b → bd a ≤ bd b := fun {a b} hab => by
      induction hab with
      | refl => exact Nat.le_refl _
      | step _ ih => exact Nat.le_trans ih (st _)
    exact mono hn
  cases r with
  | cons r1 rr =>
    cases rr
    rcases Dv.flat hd with ⟨a, rfl⟩ | hl
    · obtain ⟨as, R, hm⟩ := Dv.reads I hS n _ _ _ hd r1
      cases r1
      have hu := hr.un
      have hz2 : X.A.units + (d.depth + 1) < cLine := Nat.lt_of_le_of_lt (by omega : X.A.units + (d.depth + 1) ≤ X.A.units + 16 * k + 200) hu
      exact repr_of_reads' R h1 (fun _ => hm) hgd hz2 (fun _ _ e => e) (fun h' u tk hk => ⟨.str d.shown, H, I.kept hk, ⟨u, rfl⟩, q⟩) hz
    · rcases hl with ⟨rfl, rfl⟩ | ⟨b, rfl, rfl⟩ | ⟨i, rfl, rfl, hi⟩ | ⟨x, rfl, rfl, hx⟩
      · cases r1
        exact PySem.P.repr_of_none ⟨.str _, H, I.tok _, ⟨_, rfl⟩, q⟩
      · cases r1
        cases b
        · exact PySem.P.repr_of_bool ⟨.str (PyData.shown (.bool false)), H, I.tok _, ⟨_, rfl⟩, q⟩
        · exact PySem.P.repr_of_bool ⟨.str (PyData.shown (.bool true)), H, I.tok _, ⟨_, rfl⟩, q⟩
      · obtain ⟨t, rfl⟩ := r1
        exact PySem.P.repr_of_int (Nat.lt_of_lt_of_le (log_lt (k := 40) (by omega) hi) (by omega)) ⟨.str (PyData.shown (.int i)), H, I.tok _, ⟨_, rfl⟩, q⟩
      · obtain ⟨t, rfl⟩ := r1
        exact PySem.P.repr_of_str ⟨.str (PyData.shown (.str x)), H, I.tok _, ⟨_, rfl⟩, q⟩ hz
theorem i_reprV {Q : VK} {v : V} {n : Nat} {d : PyData} (h : Dv F H n v d) (hn : n ≤ 6) (q : Q (.str d.shown) H) : rReprV [v] H Q := ⟨v, F, n, d, rfl, h, hn, q⟩
end
end My

/-! own layer, 12: own errors as values: made, asked for their kind, their field read -/
namespace My
open PySem PySem.Spec PyProof.Rows L2
/-- an error of the class at C that holds v stands at a -/
def ErrAt (H : Hp) (C a : Addr) (v : V) : Prop := ∃ d, H a = some (exo a C (some d)) ∧ H d = some (exd d [("value", v)])
theorem ErrAt.same {H H' : Hp} {C a : Addr} {v : V} (h : ErrAt H C a v) (S : Same H H') : ErrAt H' C a v := by
  obtain ⟨d, h1, h2⟩ := h
  exact ⟨d, S _ _ h1, S _ _ h2⟩
theorem exo_lst {e C : Addr} {d : Option Addr} {xs : List V} : exo e C d ≠ .lst xs := fun z => by
  have y : HO.ext _ = HO.lst xs := z
  cases y
theorem exd_lst {e : Addr} {fs : List (Str × V)} {xs : List V} : exd e fs ≠ .lst xs := fun z => by
  have y : HO.ext _ = HO.lst xs := z
  cases y
theorem ErrAt.but {H H' : Hp} {C a p : Addr} {v : V} {xs : List V} (h : ErrAt H C a v) (hp : H p = some (.lst xs)) (B : But p H H') : ErrAt H' C a v := by
  obtain ⟨d, h1, h2⟩ := h
  exact ⟨d, B _ _ (ne_of h1 hp exo_lst) h1, B _ _ (ne_of h2 hp exd_lst) h2⟩
/-- what the written part says of an own class of errors -/
structure EOk (K : PySem.W.Frag) (C : Addr) : Prop where
  o : OexC K C
  no : PySem.W.findIn K (.ref C) "value" = some none
  x : XfC K C
  e : ExcC K C
def MkEQ (C : Addr) (sp : Sp) (vs : List V) (H : Hp) (Q : VK) : Prop := vs.length ≤ 1000 ∧ ∀ a, H a = none → sp (.ref a :: vs) (upd H a (exo a C none)) (fun v H2 => v = .non ∧ Q (.ref a) H2) E0
def tMkE (C : Addr) (sp : Sp) (ta : TA) : TE := fun σ H Q => ta σ H fun vs H1 => MkEQ C sp vs H1 Q
def ErrVQ (K : PySem.W.Frag) (x : V) (H : Hp) (Q : VK) : Prop := ∃ (a C : Addr) (v : V), x = .ref a ∧ ErrAt H C a v ∧ EOk K C ∧ Q v H
def tErrV (K : PySem.W.Frag) (te : TE) : TE := fun σ H Q => te σ H fun x H1 => ErrVQ K x H1 Q
def rIsEr (K : PySem.W.Frag) : List V → Hp → VK → Prop := fun xs H Q => ∃ (a C : Addr) (v c : V) (cv : Value) (b : Bool), xs = [.ref a, c] ∧ ErrAt H C a v ∧ EOk K C ∧ (∀ u, RelV c u → u = cv) ∧ PySem.W.kitOne K (.ref C) cv = some b ∧ Q (.bl b) H
section
variable {X : Cx} {CX : CXT} {x : Str} {e : Expr} {es : List Expr} {C fI : Addr} {k : Nat} {fd : FuncData} {ps : List Str} {sp : Sp} {ta : TA} {te : TE} {p pos : Pos}
theorem pe_mkE (T : OexC X.K C) (iC : PySem.W.findIn X.K (.ref C) "__init__" = some (some (.ref fI))) (tI : PySem.W.typeIn X.K (.ref fI) = some (.type "function")) (gC : X.mg x = some (.ref C)) (F1 : FnOk X.prog X.w X.K X.mg X.base CX k fI fd ps sp) (hb : L2.Binds X.K fd ps []) (hr : Room (k + 1) X.A)
    (ha : PA X (e :: es) ta) (hx : Passes CX X E0 := by first | exact pass0 | exact passL) (hg : Gl X x := by rfl)
    (hdb : (x == ("__debug__" : Str)) = false := by decide) (he : starEach (e :: es) X.env = (false, eval e X.env) :: starEach es X.env := by rfl) (hpl : (backTo pos (starEach es X.env)).any (·.1) = false := by rfl) :
    PE X (.Call (.Name x p) (e :: es) [] pos) (tMkE C sp ta) := by
  obtain ⟨nm, q, N, bs, bm, sn, sub, ab, col, dd, k0, k1, k2, k3, k5, hC, hbm⟩ := T.cls
  refine ⟨fun pins s σ H Q I h => ?_⟩
  refine wpAny_Call_Name_kw (ld_glob I hg gC ?_ hdb)
  refine PySem.W.callWith_K (h₀ := X.base) I.ok.mod.kin T.kC (thn (ha.run pos pins s σ H _ I h) ?_) he hpl
  rintro us ⟨hp, g, dr, tk, os⟩ ⟨vs, H1, I1, r1, hz, q1⟩
  refine ⟨I1.kIn, ?_⟩
  have hsz := Nat.le_succ hp.objs.size
  have hq := q1 (hp.objs.size + 1) (I1.hok.fresh hsz)
  have kk : ∀ b o, hp.get? b = some o → ((hp.push (PySem.W.kdv_tup us)).push (PySem.HandSPX.excO C hp.objs.size)).get? b = some o := fun b o z =>
    Heap.get?_push_of_some _ (Heap.get?_push_of_some _ z)
  have I2 := I1.laid (t' := tk) (a := hp.objs.size + 1) (o := exo (hp.objs.size + 1) C none) kk hsz
    (exo_ok (by heap_get))
  have r2 := Paired.cons (F := RelV) (a := V.ref (hp.objs.size + 1)) (b := Value.ref (hp.objs.size + 1)) rfl r1
  have hl : (Value.ref (hp.objs.size + 1) :: us).length = ps.length := by
    rw [← Vals.length r2]
    exact F1.len _ _ _ _ hq
  have hl2 : (Value.ref (hp.objs.size + 1) :: us ++ ([] : List Value)).length = ps.length := by
    rw [List.append_nil]
    exact hl
  have hb2 := hb _ (Value.ref (hp.objs.size + 1) :: us) I2.kIn hl2
  rw [List.append_nil] at hb2
  have hus : us.length ≤ sizeLine := by
    rw [← Vals.length r1, sizeLine_eq]
    omega
  have run := F1.run _ X.stack _ _ ⟨Value.ref (hp.objs.size + 1) :: us, []⟩ (Value.ref (hp.objs.size + 1) :: us) _ _ E0
    (hr.make C us []) (I2.env0.make C us []) hb2 r2 hq
  have bm2 := fun Y => PySem.HandSPX.refsVE_contains Y bm hbm
  refine wpAny_call (PySem.HandSPX.call_own F.excBase_ValueError bm2 (I1.kIn _ _ hC) (PySem.W.looks_findIn I1.kIn iC) (fun self => PySem.W.bind_fn I1.kIn self tI) hus (codeAny_mono run ?_))
  intro r s' hq'
  cases r with
  | error er => exact hx pins σ _ _ er s' I2 hq'
  | ok fl =>
    cases fl with
    | ret u =>
      obtain ⟨v, H', J, rv, ev, q2⟩ := I2.after hq'
      subst ev
      exact ⟨rv, .ref (hp.objs.size + 1), H', J, rfl, q2⟩
    | _ => exact False.elim hq'
theorem pe_errv (he : PE X e te) (hb : attributeBase e "value" X.env (eval e X.env) = eval e X.env := by rfl) : PE X (.Attribute e "value" pos) (tErrV X.K te) := by
  refine ⟨fun pins s σ H Q I h => attr_of hb (thn (he.run pins s σ H _ I h) ?_)⟩
  rintro u s1 ⟨x, H1, I1, rx, a, C, v, ex, ⟨d, h1, h2⟩, T, q⟩
  subst ex
  obtain rfl : u = Value.ref a := rx
  obtain ⟨t1, ho⟩ := exo_at I1.hok h1
  obtain ⟨mA, hns, rel⟩ := exd_at I1.hok h2
  obtain ⟨od, hd, hl⟩ := lookIn_ns hns
  obtain ⟨u, hu, ru⟩ := RelO.some_of (v := v) (o := mA "value") (rel "value")
  have J : PySem.W.InstAt s1.heap a _ C (some od) := ⟨ho, rfl, rfl, hd⟩
  exact HandSPX.exc_get I1.kIn J T.x.ga T.x.gg T.x.exC (PySem.W.findObj_own T.x.hdC T.no rfl (by rw [hl, hu])) (handed_of ru) ⟨v, H1, I1.tok _, ru, q⟩
end
/-! ### isinstance -/
section
open PySem.W PySem.Calls
variable {prog : Program} {w : World} {A : Around} {E : Value → Shared → Prop} {s : Shared} {K : Frag} {x D : Addr} {ox : Obj} {od : Option Obj}
/-- e.__class__ of an error, its own dict or none -/
theorem er_class {Q : Option Value → Shared → Prop} (c : ExcC K D) (KX : K.In s.heap) (I : InstAt s.heap x ox D od) (h : Q (some (.ref D)) { s with toks := s.toks + 1 }) : wpAny (model prog w) A (getAttr? (.ref x) "__class__") Q E s := by
  obtain ⟨cd, hcd, _⟩ := any_some c.hd
  have found : findObj K D od "__class__" = some (.bind (.builtin "getset_descriptor.__get__") (.builtin "object.__class__")) := by
    unfold findObj
    rw [hcd, Option.bind_some, c.ha, Option.bind_some]
    simp [c.hn, c.ht]
  obtain ⟨hp, g, d, t, os⟩ := s
  have ty := I.type (M := model prog w)
  have fd := looks_find (M := model prog w) KX I found
  have isB : Looks (model prog w) hp (isInstance (.ref x) (.type "BaseException")) true := ty.andThen (looks_subIn KX c.hs)
  have n1 : (Value.builtin "BaseException.__getattribute__" == Value.builtin "object.__getattribute__") = false := by decide +kernel
  have n2 : (onTheHeap (Value.ref D) && Value.builtin "BaseException.__getattribute__" == Value.builtin "object.__getattribute__") = false := by rw [n1]; rfl
  unfold getAttr? getAttrBy? getAttrBy
  refine wpAny_bind (wpAny_mkText ?_)
  refine wpAny_bind (wpAny_attempt (wpAny_holding (wpAny_bind (ty.at ?_))))
  refine wpAny_bind ((looks_findIn KX c.hg).at ?_)
  show wpAny _ _ (ite ((onTheHeap (Value.ref D) && Value.builtin "BaseException.__getattribute__" == Value.builtin "object.__getattribute__") = true) _ _) _ _ _
  rw [n2, if_neg Bool.false_ne_true]
  unfold getAttrByItsOwn hookBefore
  refine wpAny_bind ?_
  rw [if_pos (show onTheHeap (Value.ref D) = true from rfl)]
  refine (looks_findIn KX c.hk).at ?_
  refine wpAny_bind (wpAny_attempt ?_)
  refine wpAny_holding ?_
  unfold callGetattribute
  rw [show (false && onTheHeap (Value.builtin "BaseException.__getattribute__")) = false from rfl, if_neg Bool.false_ne_true]
  unfold boundAndCalled
  rw [PySem.F.excAttr_ValueError.ga.bind (.ref x)]
  refine wpAny_bind (wpAny_pure (wpAny_call (codeAny_call_builtin PySem.F.excAttr_ValueError.ga.plain PySem.F.entry_bexc_ga ?_)))
  refine @check_slot (model prog w) _ _ ⟨hp, g, d, t + 1, os⟩ "BaseException.__getattribute__" "BaseException" "__getattribute__" (.ref x)
    [.str "__class__" t] [] _ (by decide +kernel) (by decide +kernel) isB (PySem.F.args_bexc_ga (.ref x) (.str "__class__" t)) ?_
  unfold Builtin.«object.__getattribute__»
  refine wpAny_bind (wpAny_of_eq (a := ((Value.ref x : Value), [Value.str "__class__" t])) (by first | rfl | (simp only [slotArgs]; rfl)) ?_)
  refine wpAny_bind (wpAny_pure ?_)
  refine wpAny_bind (ty.at (wpAny_bind (fd.at ?_)))
  refine wpAny_bind (wpAny_holding (wpAny_call (class_get (s := ⟨hp, g, d, t + 1, os⟩) (ox := ox) (od := od) KX I c.hm (wpAny_pure ?_))))
  show wpAny _ _ (handedOut (.ref D)) _ _ _
  rw [handedOut_of (v := .ref D) rfl]
  first
    | exact wpAny_pure (wpAny_bind (wpAny_pure (wpAny_pure h)))
    | exact wpAny_pure (wpAny_pure h)
    | exact wpAny_pure h
theorem er_kit (c : ExcC K D) : KitX K (.ref x) (.ref D) (fun h => InstAt h x ox D od) := by
  obtain ⟨cd, hcd, _⟩ := any_some c.hd
  obtain ⟨c', d', sl', ho⟩ : ∃ c' d' sl', K.lookup D = some ⟨c', d', .cls cd, sl'⟩ := by
    unfold clsIn at hcd
    split at hcd
    · rename_i a b e f g
      cases hcd
      exact ⟨_, _, _, g⟩
    · cases hcd
  refine ⟨fun _ _ _ I => I.type, fun _ _ KX _ => ?_, fun h tp dd its n sl KX htp => ?_, fun KX I q => er_class c KX I q⟩
  · intro A' Q' E' s' keep q
    unfold isType loadHead
    exact wpAny_bind (wpAny_loadPart (keep _ _ (KX _ _ ho)) (wpAny_pure q))
  · refine Bool.eq_false_iff.mpr fun q => ?_
    have e := Value.ref.inj (beq_iff_eq.mp q)
    subst e
    have z := (KX _ _ ho).symm.trans htp
    cases z
end
theorem call_isEr {X : Cx} : CallR X (.builtin "isinstance") (rIsEr X.K) := by
  intro pins s σ H xs us Q I r h
  obtain ⟨a, C, v, c, cv, b, rfl, ⟨d, h1, h2⟩, T, hcv, e, q⟩ := h
  obtain ⟨t1, ho⟩ := exo_at I.hok h1
  obtain ⟨mA, hns, _⟩ := exd_at I.hok h2
  obtain ⟨od, hd, _⟩ := lookIn_ns hns
  have J : PySem.W.InstAt s.heap a _ C (some od) := ⟨ho, rfl, rfl, hd⟩
  cases r with
  | cons rx rr =>
    cases rr with
    | cons rt rr =>
      cases rr
      cases rx
      have ec := hcv _ rt
      subst ec
      exact PySem.W.kia_one (er_kit T.e) I.kIn J e (fun z => nomatch z) fun tk => ⟨.bl b, H, I.kept (t' := tk) fun _ _ z => z, rfl, q⟩
/-! ### the steps -/
section
variable {K : PySem.W.Frag} {σ : L2.St} {H : Hp} {ta : TA} {te : TE} {Q : VK} {C a D : Addr} {sp : Sp} {v : V} {b : Bool}
theorem i_mkE0 (h : ta σ H fun vs H1 => MkEQ C sp vs H1 Q) : tMkE C sp ta σ H Q := h
theorem i_errv0 (h : te σ H fun x H1 => ErrVQ K x H1 Q) : tErrV K te σ H Q := h
theorem i_errv (h : ErrAt H C a v) (T : EOk K C) (q : Q v H) : ErrVQ K (.ref a) H Q := ⟨a, C, v, rfl, h, T, q⟩
theorem i_isE (h : ErrAt H C a v) (T : EOk K C) (e : PySem.W.kitOne K (.ref C) (.ref D) = some b) (q : Q (.bl b) H) : rIsEr K [.ref a, .ref D] H Q :=
  ⟨a, C, v, .ref D, .ref D, b, rfl, h, T, fun _ z => z, e, q⟩
theorem i_isEt {n : String} (h : ErrAt H C a v) (T : EOk K C) (e : PySem.W.kitOne K (.ref C) (.type n) = some b) (q : Q (.bl b) H) : rIsEr K [.ref a, .ty n] H Q :=
  ⟨a, C, v, .ty n, .type n, b, rfl, h, T, fun _ z => z, e, q⟩
/-- what the own __init__ promises -/
def spErrInit (K : PySem.W.Frag) : Sp := fun vs H Q _ => ∃ (a C : Addr) (v : V), vs = [.ref a, v] ∧ H a = some (exo a C none) ∧ EOk K C ∧ ∀ H', But a H H' → ErrAt H' C a v → Q .non H'
theorem i_ost {f : Str} {D : Ends} {to : TE} (h : te σ H fun y H1 => to σ H1 fun x H2 => ∃ a C : Addr, x = .ref a ∧ OexC K C ∧ PySem.W.findIn K (.ref C) f = some none ∧ H2 a = some (exo a C none) ∧
    ∀ dx, H2 dx = none → dx ≠ a → D.nx σ (upd (upd H2 dx (exd dx [(f, y)])) a (exo a C (some dx)))) (mt : ∀ {P Q : V → Hp → Prop} {σ H}, (∀ x H, P x H → Q x H) → te σ H P → te σ H Q) (mo : ∀ {P Q : V → Hp → Prop} {σ H}, (∀ x H, P x H → Q x H) → to σ H P → to σ H Q) : tOst K f to te D σ H :=
  mt (fun y H1 h => mo (fun x H2 ⟨a, C, e, T, n, h1, h2⟩ => ⟨a, C, e, T, n, .inl ⟨h1, h2⟩⟩) h) h
theorem i_mkE (T : EOk K C) (k : ∀ a H2, Same H H2 → H a = none → ErrAt H2 C a v → Q (.ref a) H2) : MkEQ C (spErrInit K) [v] H Q := by
  refine ⟨by show 1 ≤ 1000; omega, fun a ha => ⟨a, C, v, rfl, upd_same, T, fun H' B e => ⟨rfl, ?_⟩⟩⟩
  exact k a H' (fun b o z => B b o (ne_of_none z ha) (by rw [upd_ne (ne_of_none z ha)]; exact z)) ha e
end
end My

/-! own layer, 13: own errors, what the written part holds of them -/
namespace My
open PySem PySem.Spec PyProof.Rows L2
def exclsB (K : PySem.W.Frag) (C : Addr) : Bool := match K.lookup C with
  | some ⟨.type "type", _, .cls cd, sl⟩ => (match cd.mro, sl.toList with
    | .ref C' :: bm, [_, _, _, _, some (.builtin n), _] => decide (C' = C) && (decide (n = "ValueError.__new__") && (cd.hasDict && (!cd.hasDel && PySem.HandSPX.refsVE bm)))
    | _, _ => false)
  | _ => false
section
variable {K : PySem.W.Frag} {C M D : Addr}
theorem exclsB_ok (h : exclsB K C = true) : ∃ nm q N bs bm sn sub ab col dd k0 k1 k2 k3 k5, K.lookup C = some (excClassObj nm q C N bs bm true sn sub ab col dd k0 k1 k2 k3 k5 "ValueError.__new__") ∧ PySem.HandSPX.refsVE bm = true := by
  unfold exclsB at h
  split at h
  · rename_i dd cd sl hl
    split at h
    · rename_i C' bm k0 k1 k2 k3 n k5 hm hs
      obtain ⟨h1, h⟩ := He.ba h
      obtain ⟨h2, h⟩ := He.ba h
      obtain ⟨h3, h⟩ := He.ba h
      obtain ⟨h4, h5⟩ := He.ba h
      have f1 := of_decide_eq_true h1
      have f2 := of_decide_eq_true h2
      have f4 : cd.hasDel = false := by simpa using h4
      clear h1 h2 h4
      subst f1 f2
      obtain ⟨nm, bs, mro, ns, qn, hd, sn, sub, ab, col, del⟩ := cd
      dsimp only at hm h3 f4
      subst hm h3 f4
      obtain ⟨l⟩ := sl
      dsimp only at hs
      subst hs
      exact ⟨nm, qn, ns, bs, bm, sn, sub, ab, col, dd, k0, k1, k2, k3, k5, hl, h5⟩
    · cases h
  · cases h
def eokB (K : PySem.W.Frag) (C : Addr) : Bool := [exclsB K C,
  He.eqO (PySem.W.findIn K (.ref C) "__setattr__") (some (some (.builtin "object.__setattr__"))),
  decide (PySem.W.subIn K (.ref C) (.type "BaseException") = some true),
  decide (PySem.W.typeIn K (.ref C) = some (.type "type")),
  PySem.W.keepIn K (.ref C),
  He.eqO (PySem.W.findIn K (.ref C) "value") (some none),
  He.eqO (PySem.W.findIn K (.ref C) "__getattribute__") (some (some (.builtin "BaseException.__getattribute__"))),
  He.eqO (PySem.W.findIn K (.ref C) "__getattr__") (some none),
  PySem.W.hasDictIn K C,
  He.eqO (PySem.W.findIn K (.ref C) "__class__") (some (some (.builtin "object.__class__"))),
  decide (PySem.W.mroIn K C (.type "object") = some true)].all id
/-- asked once for all classes -/
def clsB (K : PySem.W.Frag) : Bool := He.eqO (PySem.W.specialIn K (.builtin "object.__class__") "__get__") (some (some (.builtin "getset_descriptor.__get__"))) && decide (PySem.W.takesIn K (.builtin "object.__class__") = some true)
theorem eokB_ok (h : eokB K C = true) (g : clsB K = true) : EOk K C := by
  obtain ⟨g1, g2⟩ := He.ba g
  have g1 := He.eqO_ok g1
  have g2 := of_decide_eq_true g2
  have a := List.all_eq_true.mp h
  have h0 : exclsB K C = true := a _ (.head _)
  have h1 := He.eqO_ok (a _ (.tail _ (.head _)))
  have h2 := of_decide_eq_true (a _ (.tail _ (.tail _ (.head _))))
  have h3 := of_decide_eq_true (a _ (.tail _ (.tail _ (.tail _ (.head _)))))
  have h4 : PySem.W.keepIn K (.ref C) = true := a _ (.tail _ (.tail _ (.tail _ (.tail _ (.head _)))))
  have h5 := He.eqO_ok (a _ (.tail _ (.tail _ (.tail _ (.tail _ (.tail _ (.head _)))))))
  have h6 := He.eqO_ok (a _ (.tail _ (.tail _ (.tail _ (.tail _ (.tail _ (.tail _ (.head _))))))))
  have h7 := He.eqO_ok (a _ (.tail _ (.tail _ (.tail _ (.tail _ (.tail _ (.tail _ (.tail _ (.head _)))))))))
  have h8 : PySem.W.hasDictIn K C = true := a _ (.tail _ (.tail _ (.tail _ (.tail _ (.tail _ (.tail _ (.tail _ (.tail _ (.head _)))))))))
  have h9 := He.eqO_ok (a _ (.tail _ (.tail _ (.tail _ (.tail _ (.tail _ (.tail _ (.tail _ (.tail _ (.tail _ (.head _)))))))))))
  have h10 := of_decide_eq_true (a _ (.tail _ (.tail _ (.tail _ (.tail _ (.tail _ (.tail _ (.tail _ (.tail _ (.tail _ (.tail _ (.head _))))))))))))
  exact ⟨⟨exclsB_ok h0, h1, h2, h3, h4⟩, h5, ⟨h6, h7, h2, h8⟩, ⟨h6, h7, h2, h8, h9, g1, g2, h10⟩⟩
/-- the classes that a class of errors stands below -/
def mroB (K : PySem.W.Frag) (C M : Addr) : Bool := match PySem.W.clsIn K C with
  | some cd => decide (cd.mro = .ref C :: .ref M :: PySem.HandSPX.veTail)
  | none => false
def mroB0 (K : PySem.W.Frag) (M : Addr) : Bool := match PySem.W.clsIn K M with
  | some cd => decide (cd.mro = .ref M :: PySem.HandSPX.veTail)
  | none => false
theorem mro_in (h : mroB K C M = true) (v : Value) : PySem.W.mroIn K C v = some ((Value.ref C :: .ref M :: PySem.HandSPX.veTail).contains v) := by
  unfold mroB at h
  unfold PySem.W.mroIn
  split at h
  · rename_i cd e
    rw [e, Option.bind_some, of_decide_eq_true h]
    rfl
  · cases h
theorem mro_in0 (h : mroB0 K M = true) (v : Value) : PySem.W.mroIn K M v = some ((Value.ref M :: PySem.HandSPX.veTail).contains v) := by
  unfold mroB0 at h
  unfold PySem.W.mroIn
  split at h
  · rename_i cd e
    rw [e, Option.bind_some, of_decide_eq_true h]
    rfl
  · cases h
theorem ve_ref : PySem.HandSPX.veTail.contains (Value.ref D) = false := rfl
theorem ref_beq {a b : Addr} : (Value.ref a == Value.ref b) = decide (a = b) := by
  by_cases e : a = b
  · subst e
    rw [beq_self_eq_true, decide_eq_true rfl]
  · rw [decide_eq_false e]
    exact Bool.eq_false_iff.mpr fun z => e (Value.ref.inj (beq_iff_eq.mp z))
theorem kit_cls1 (d : EOk K D) {b : Bool} (h : PySem.W.mroIn K C (.ref D) = some b) (hb : C = D → b = true) : PySem.W.kitOne K (.ref C) (.ref D) = some b := by
  unfold PySem.W.kitOne
  by_cases e : C = D
  · subst e
    rw [if_pos (beq_self_eq_true _), hb rfl]
  · rw [if_neg (by rw [ref_beq, decide_eq_false e]; exact Bool.false_ne_true)]
    obtain ⟨cd, hc, _⟩ := PySem.W.any_some d.e.hd
    show (if ((PySem.W.clsIn K D).isSome && PySem.W.typeIn K (.ref D) == some (.type "type")) = true then PySem.W.subIn K (.ref C) (.ref D) else none) = _
    rw [hc, d.o.tyC, if_pos (by rfl)]
    exact h
/-- isinstance of an error of the class C below M -/
theorem kit_er (d : EOk K D) (h : mroB K C M = true) (hM : D ≠ M) : PySem.W.kitOne K (.ref C) (.ref D) = some (decide (D = C)) :=
  kit_cls1 d (by rw [mro_in h, List.contains_cons, List.contains_cons, ref_beq, ref_beq, decide_eq_false hM, ve_ref, Bool.or_false, Bool.or_false]) fun e => decide_eq_true e.symm
theorem kit_erM (d : EOk K M) (h : mroB K C M = true) : PySem.W.kitOne K (.ref C) (.ref M) = some true :=
  kit_cls1 d (by rw [mro_in h, List.contains_cons, List.contains_cons, ref_beq, ref_beq, decide_eq_true rfl, Bool.true_or, Bool.or_true]) fun _ => rfl
theorem kit_er0 (d : EOk K D) (h : mroB0 K M = true) (hM : D ≠ M) : PySem.W.kitOne K (.ref M) (.ref D) = some false :=
  kit_cls1 d (by rw [mro_in0 h, List.contains_cons, ref_beq, decide_eq_false hM, ve_ref, Bool.or_false]) fun e => absurd e.symm hM
theorem kit_V (h : mroB K C M = true) : PySem.W.kitOne K (.ref C) (.type "ValueError") = some true := by
  show PySem.W.mroIn K C (.type "ValueError") = some true
  rw [mro_in h]
  rfl
theorem kit_V0 (h : mroB0 K M = true) : PySem.W.kitOne K (.ref M) (.type "ValueError") = some true := by
  show PySem.W.mroIn K M (.type "ValueError") = some true
  rw [mro_in0 h]
  rfl
/-- the dict of the modules stands where nothing of ours does -/
def sysB (K : PySem.W.Frag) : Bool := match K.lookup sysModules with
  | some ⟨_, _, .dict _ _, _⟩ => true
  | _ => false
theorem sysB_ok (h : sysB K = true) : SysD K := by
  unfold sysB at h
  split at h
  · rename_i e
    exact ⟨_, _, _, _, _, e⟩
  · cases h
end
/-! ### a loop over enumerate -/
section
variable {K : PySem.W.Frag} {a : Addr} {xs : List V} {g : TG} {tb : TS} {D : Ends} {σ : L2.St} {H : Hp} {ta : TA} {R : It → Hp → Prop}
def WlkE (K : PySem.W.Frag) (vs : List V) (H : Hp) (R : It → Hp → Prop) : Prop := ∃ a xs, vs = [.ref a] ∧ SqL K H a xs ∧ R (Ite K a) H
theorem i_we (h : ta σ H fun vs H1 => WlkE K vs H1 R) : iEnum K ta σ H R := h
theorem i_wev (hl : SqL K H a xs) (h : R (Ite K a) H) : WlkE K [.ref a] H R := ⟨a, xs, rfl, hl, h⟩
theorem forq_enum (Pv : Nat → L2.St → Hp → Prop) (h0 : Pv 0 σ H) (hl : ∀ i σ H, i ≤ xs.length → Pv i σ H → SqL K H a xs)
    (hs : ∀ i x σ H T H', xs[i]? = some x → Pv i σ H → Same H H' → H T = none → H' T = some (.tup [.int (i : Nat), x]) → g (.ref T) σ H' fun σ2 H2 => tb { D with nx := Pv (i + 1), ct := Pv (i + 1), bk := D.nx } σ2 H2) (hd : ∀ σ H, Pv xs.length σ H → D.nx σ H) : ForQ (Ite K a) g tb D σ H := by
  refine for_it (G := fun H => SqL K H a xs) walk_enum Pv h0 hl ?_ hd
  rintro i x σ H H' hi hP ⟨T, y, z, rfl, hT, rfl, e1, e2⟩
  cases e1
  exact hs i z σ H T _ e2 hP (fun b u e => by rw [upd_ne (ne_of_none e hT)]; exact e) hT upd_same
end
end My

/-! own layer, 14: what the defs of the law of errors promise -/
namespace My
open PySem PySem.Spec PyProof.Rows L2
theorem eok_all {K : PySem.W.Frag} {l : List Str} (h : (l.all (fun c => eokB K (He.ga K c)) && clsB K) = true) : ∀ c ∈ l, EOk K (He.ga K c) := fun c hc => by
  obtain ⟨h1, h2⟩ := He.ba h
  exact eokB_ok (List.all_eq_true.mp h1 c hc) h2
def rTupOf (K : PySem.W.Frag) : List V → Hp → VK → Prop := fun xs H Q => ∃ p ys, xs = [.ref p] ∧ ((SqL K H p ys ∧ ∀ l, H l = none → Q (.ref l) (upd H l (.tup ys))) ∨ (SqT K H p ys ∧ Q (.ref p) H))
theorem cr_tupOf {X : Cx} : CallR X (.type "tuple") (rTupOf X.K) := call_tuple_of
section
variable {K : PySem.W.Frag} {H : Hp} {Q : VK} {p a : Addr} {xs ys : List V} {v : V}
theorem i_tupOfL (hl : SqL K H p xs) (h : ∀ t H1, Same H H1 → H t = none → H1 t = some (.tup xs) → Q (.ref t) H1) : rTupOf K [.ref p] H Q := ⟨p, xs, rfl, .inl ⟨hl, i_new h⟩⟩
theorem i_ext {l b : Addr} (h1 : H l = some (.lst xs)) (h2 : H b = some (.lst ys)) (z : xs.length + ys.length ≤ sizeLine) (h : ∀ H1, But l H H1 → H1 l = some (.lst (xs ++ ys)) → Q .non H1) : rExtend (.ref l) [.ref b] H Q :=
  ⟨l, b, xs, ys, rfl, rfl, h1, h2, z, h _ But.upd upd_same⟩
theorem i_cat {l b : Addr} (h1 : H l = some (.lst xs)) (h2 : H b = some (.lst ys)) (z : xs.length + ys.length ≤ sizeLine) (h : ∀ t H1, Same H H1 → H t = none → H1 t = some (.lst (xs ++ ys)) → Q (.ref t) H1) : rCat (.ref l) (.ref b) H Q :=
  ⟨l, b, xs, ys, rfl, rfl, h1, h2, z, i_new h⟩
theorem i_dnew {σ : L2.St} (h : ∀ d H1, Same H H1 → H d = none → H1 d = some (.dK []) → Q (.ref d) H1) : tDNewK σ H Q := i_new h
theorem dpAll_bl : ∀ bs : List Bool, DpAll K H (bs.map V.bl) (bs.map PyData.bool)
  | [] => .nil
  | b :: r => .cons (.bl b) (dpAll_bl r)
theorem lay_bl : ∀ bs : List Bool, PyData.canLayAll0 (bs.map PyData.bool) = true
  | [] => by simp [PyData.canLayAll0]
  | b :: r => by simp [PyData.canLayAll0, PyData.canLay0, lay_bl r]
theorem depth_bl : ∀ bs : List Bool, PyData.depthAll (bs.map PyData.bool) = 0
  | [] => by simp [PyData.depthAll]
  | b :: r => by simp [PyData.depthAll, PyData.depth, depth_bl r]
theorem lay_l (bs : List Bool) : (PyData.list (bs.map PyData.bool)).canLay0 = true := by
  simp [PyData.canLay0, lay_bl]
theorem shaped_l (bs : List Bool) : SeqAt.shaped (.list (bs.map PyData.bool)) = true := by
  simp [SeqAt.shaped, lay_l, PyData.depth, depth_bl]
theorem i_eqS {s : Str} (h : Q (.bl true) H) : rEq (.str s) (.str s) H Q := ⟨rfl, by rw [decide_eq_true rfl]; exact h⟩
theorem i_neBl {b : Addr} {bs : List Bool} (h1 : SqL K H a (bs.map V.bl)) (h2 : SqL K H b (bs.map V.bl)) (h : Q (.bl false) H) : rNeD K (.ref a) (.ref b) H Q :=
  ⟨.list (bs.map PyData.bool), .list (bs.map PyData.bool), .lst h1 (dpAll_bl bs), .lst h2 (dpAll_bl bs), shaped_l bs, shaped_l bs, by rw [SeqAt.eqv_refl _ (lay_l bs)]; exact h⟩
end
/-! ### drawn values -/
def cst : Nat → Int
  | 0 => 1
  | n + 1 => 2 + 3 * cst n
/-- a drawn value, of this depth -/
def spVal (n : Nat) (i : Int) : Sp := fun vs H Q _ => ∃ (p : Addr) (m : Int), vs = [.ref p, .int i] ∧ Pot H p m ∧ m + cst n < 200000 ∧ ∀ (v : V) (d : PyData) (H' : Hp), Dv (fun a => H a = none) H' (n + 1) v d → Pot H' p (m + cst n) → But p H H' → Q v H'
def spNo : Sp := fun _ _ _ _ => False
/-- the values that are drawn at the end -/
def Leafs (t1 l2 d3 t4 t5 : Addr) : List V := [.non, .bl true, .bl false, .int 0, .int 1, .int (-1), .int (10 ^ Int.toNat 8), .str "", .str "a", .str "line 3", .ref t1, .ref l2, .ref d3, .ref t4, .ref t5]
theorem leaf_dv {F : Addr → Prop} {H : Hp} {t1 l2 d3 t4 t5 : Addr} {v : V} (hv : v ∈ Leafs t1 l2 d3 t4 t5) (F1 : F t1) (F2 : F l2) (F3 : F d3) (F4 : F t4) (F5 : F t5) (e1 : H t1 = some (.tup [])) (e2 : H l2 = some (.lst [])) (e3 : H d3 = some (.dK []))
    (e4 : H t4 = some (.tup [.int 1, .int 2])) (e5 : H t5 = some (.tup [.str "wide", .str "up"])) : ∃ d, Dv F H 1 v d := by
  unfold Leafs at hv
  simp only [List.mem_cons, List.not_mem_nil, or_false] at hv
  rcases hv with rfl | rfl | rfl | rfl | rfl | rfl | rfl | rfl | rfl | rfl | rfl | rfl | rfl | rfl | rfl
  · exact ⟨.none, .inl (.inl ⟨rfl, rfl⟩)⟩
  · exact ⟨_, .inl (.inr (.inl ⟨_, rfl, rfl⟩))⟩
  · exact ⟨_, .inl (.inr (.inl ⟨_, rfl, rfl⟩))⟩
  · exact ⟨_, .inl (.inr (.inr (.inl ⟨_, rfl, rfl, by decide +kernel⟩)))⟩
  · exact ⟨_, .inl (.inr (.inr (.inl ⟨_, rfl, rfl, by decide +kernel⟩)))⟩
  · exact ⟨_, .inl (.inr (.inr (.inl ⟨_, rfl, rfl, by decide +kernel⟩)))⟩
  · exact ⟨_, .inl (.inr (.inr (.inl ⟨_, rfl, rfl, by decide +kernel⟩)))⟩
  · exact ⟨_, .inl (.inr (.inr (.inr ⟨_, rfl, rfl, by decide +kernel⟩)))⟩
  · exact ⟨_, .inl (.inr (.inr (.inr ⟨_, rfl, rfl, by decide +kernel⟩)))⟩
  · exact ⟨_, .inl (.inr (.inr (.inr ⟨_, rfl, rfl, by decide +kernel⟩)))⟩
  · exact ⟨.tuple [], .inr ⟨_, rfl, F1, .inr (.inl ⟨_, _, rfl, e1, .nil, by decide⟩)⟩⟩
  · exact ⟨.list [], .inr ⟨_, rfl, F2, .inl ⟨_, _, rfl, e2, .nil, by decide⟩⟩⟩
  · exact ⟨.dict [], .inr ⟨_, rfl, F3, .inr (.inr (.inl ⟨rfl, e3⟩))⟩⟩
  · exact ⟨.tuple [.int 1, .int 2], .inr ⟨_, rfl, F4, .inr (.inl ⟨_, _, rfl, e4, .cons (.inr (.inr (.inl ⟨_, rfl, rfl, by decide +kernel⟩))) (.cons (.inr (.inr (.inl ⟨_, rfl, rfl, by decide +kernel⟩))) .nil), by decide⟩)⟩⟩
  · exact ⟨.tuple [.str "wide", .str "up"], .inr ⟨_, rfl, F5, .inr (.inl ⟨_, _, rfl, e5, .cons (.inr (.inr (.inr ⟨_, rfl, rfl, by decide +kernel⟩))) (.cons (.inr (.inr (.inr ⟨_, rfl, rfl, by decide +kernel⟩))) .nil), by decide⟩)⟩⟩
/-! ### errors of all classes -/
def Ers (K : PySem.W.Frag) (H : Hp) (v : V) (as : List Addr) (cs : List Str) : Prop := Paired (fun a c => ErrAt H (He.ga K c) a v) as cs
section
variable {K : PySem.W.Frag} {H H' : Hp} {v : V} {as : List Addr} {cs : List Str}
theorem Ers.imp (f : ∀ a c, ErrAt H (He.ga K c) a v → ErrAt H' (He.ga K c) a v) (h : Ers K H v as cs) : Ers K H' v as cs := by
  unfold Ers at h ⊢
  induction h with
  | nil => exact .nil
  | cons a _ ih => exact .cons (f _ _ a) ih
theorem Ers.same (h : Ers K H v as cs) (S : Same H H') : Ers K H' v as cs := h.imp fun _ _ e => e.same S
theorem Ers.but {p : Addr} {xs : List V} (h : Ers K H v as cs) (hp : H p = some (.lst xs)) (B : But p H H') : Ers K H' v as cs := h.imp fun _ _ e => e.but hp B
theorem Ers.add {a : Addr} {c : Str} (h : Ers K H v as cs) (e : ErrAt H (He.ga K c) a v) : Ers K H v (as ++ [a]) (cs ++ [c]) := by
  unfold Ers at h ⊢
  induction h with
  | nil => exact .cons e .nil
  | cons a _ ih => exact .cons a ih
theorem Ers.at_ : ∀ {as : List Addr} {cs : List Str} {i : Nat} {a : Addr}, Ers K H v as cs → as[i]? = some a → ∃ c, cs[i]? = some c ∧ ErrAt H (He.ga K c) a v
  | _, _, _, _, .nil, e => by simp at e
  | _, _, 0, _, .cons h _, e => by simp at e; subst e; exact ⟨_, rfl, h⟩
  | _, _, i + 1, _, .cons _ h, e => Ers.at_ (i := i) h (by simpa using e)
theorem Ers.len (h : Ers K H v as cs) : as.length = cs.length := Paired.length h
end
def ecs : List Str := ["BadRatio", "Short", "BadMany", "BadBench", "NoMeter", "NoLoad", "LastMeter", "BadSpread", "BadSetting", "BadStep", "BadSteps", "TooMany", "BadLog", "NoFit", "Unlike", "BadOffers", "BadHopes", "NotNow", "Hunting", "BadSource", "NothingToUndo", "NothingToRedo", "NoTrial", "BadJournal", "BadLine"]
def spMade (K : PySem.W.Frag) : Sp := fun vs H Q _ => ∃ v : V, vs = [v] ∧ ∀ (p : Addr) (H' : Hp) (as : List Addr), Same H H' → H p = none → H' p = some (.lst (as.map V.ref)) → Ers K H' v as ecs → Q (.ref p) H'
def spMarks (K : PySem.W.Frag) : Sp := fun vs H Q _ => ∃ (a C : Addr) (v : V) (f : Str → Bool), vs = [.ref a] ∧ ErrAt H C a v ∧ EOk K C ∧ (∀ c ∈ ecs, PySem.W.kitOne K (.ref C) (.ref (He.ga K c)) = some (f c)) ∧
  ∀ (p : Addr) (H' : Hp), Same H H' → H p = none → H' p = some (.lst ((ecs.map f).map V.bl)) → Q (.ref p) H'
theorem marks_eq {i : Nat} {c : Str} (h : ecs[i]? = some c) : ecs.map (fun s => decide (s = c)) = (List.range 25).map fun t => decide (i = t) := by
  have hi : i < 25 := by
    have := (List.getElem?_eq_some_iff.mp h).1
    exact this
  have all : ∀ i : Fin 25, ∀ c ∈ ecs[i.val]?, ecs.map (fun s => decide (s = c)) = (List.range 25).map fun t => decide (i.val = t) := by decide +kernel
  exact all ⟨i, hi⟩ c h
theorem inj_of {l : List Str} {f : Str → Addr} (h : (l.map f).Nodup) : ∀ a ∈ l, ∀ b ∈ l, f a = f b → a = b := by
  induction l with
  | nil => intro a ha; cases ha
  | cons x r ih =>
    rw [List.map_cons, List.nodup_cons] at h
    obtain ⟨h1, h2⟩ := h
    intro a ha b hb e
    rcases List.mem_cons.mp ha with ea | ha2
    · rcases List.mem_cons.mp hb with eb | hb2
      · rw [ea, eb]
      · exact absurd (List.mem_map.mpr ⟨b, hb2, by rw [← e, ea]⟩) h1
    · rcases List.mem_cons.mp hb with eb | hb2
      · exact absurd (List.mem_map.mpr ⟨a, ha2, by rw [e, eb]⟩) h1
      · exact ih h2 a ha2 b hb2 e
end My

local macro_rules | `(tactic| walk_at "h") => `(tactic| first
  | with_reducible refine My.i_seq ?_ | with_reducible refine My.i_asg ?_ | with_reducible refine My.i_gname ?_ | ((with_reducible refine' My.i_var ?e ?_); (case e => exact rfl)) | with_reducible refine My.i_c ?_ | with_reducible refine My.i_op ?_ | with_reducible refine My.i_un ?_
  | with_reducible refine My.i_I0 ?_ | with_reducible refine My.i_call ?_ | with_reducible refine My.i_cb ?_ | with_reducible refine My.i_cons ?_ | with_reducible refine My.i_nil ?_ | with_reducible refine My.i_ret ?_ | with_reducible refine My.i_retN ?_ | with_reducible refine My.i_drop ?_
  | with_reducible refine My.i_tup ?_ | with_reducible refine My.i_lst ?_ | with_reducible refine My.i_ife ?_ | with_reducible refine My.i_if ?_ | with_reducible refine My.i_test ?_ | with_reducible refine My.i_tB ?_ | with_reducible refine My.i_bl ?_ | with_reducible refine My.i_blv ?_
  | with_reducible refine My.i_not ?_ | with_reducible refine My.i_and ?_ | with_reducible refine My.i_or ?_ | with_reducible refine My.i_andV ?_ | with_reducible refine My.i_orV ?_ | with_reducible refine My.i_notV ?_ | with_reducible refine My.i_U ?_ | with_reducible refine My.i_next ?_
  | with_reducible refine My.i_par ?_ | with_reducible refine My.i_two ?_ | with_reducible refine My.i_int1 ?_ | with_reducible refine My.i_int1b ?_ | with_reducible refine My.i_abs ?_ | with_reducible refine My.i_max2 ?_ | with_reducible refine My.i_min2 ?_
  | ((with_reducible refine My.i_szT ?z ?_); (case z => exact Nat.le_of_ble_eq_true rfl); intro _ _ _ _ _) | ((with_reducible refine My.i_szL ?z ?_); (case z => exact Nat.le_of_ble_eq_true rfl); intro _ _ _ _ _)
  | with_reducible refine My.i_sub ?_ | with_reducible refine My.i_lstRg ?_ | with_reducible refine My.i_rg1 ?_ | with_reducible refine My.i_in ?_ | ((with_reducible refine' My.i_setL ?l ?e ?_); (case l => walk_at "look"); (case e => exact rfl); intro _ _ _) | with_reducible refine My.i_bm ?_ | with_reducible refine My.i_bm0 ?_
  | ((with_reducible refine' My.i_tyL (L2.SqL.of ?l) ?_); (case l => walk_at "look")) | ((with_reducible refine' My.i_app ?l ?e ?_); (case l => walk_at "look"); (case e => exact Nat.le_of_ble_eq_true rfl); intro _ _ _) | with_reducible refine L2.iteT ?_ | with_reducible refine L2.iteF ?_ | with_reducible refine My.ite_nt ?_ | with_reducible refine My.ite_nf ?_ | with_reducible refine My.i_gcd ?_
  | ((with_reducible refine' My.i_isiI ?e ?_); (case e => exact (by decide +kernel : L2.kitB _ _ = some _))) | with_reducible refine My.i_gcons ?_ | with_reducible refine My.i_gnil ?_
  | ((with_reducible refine' My.i_lenT ?l ?_); (case l => walk_at "lookT")) | ((with_reducible refine' My.i_lenL (L2.SqL.of ?l) ?_); (case l => walk_at "look")) | ((with_reducible refine' My.i_tupg ?l ?e ?_); (case l => walk_at "lookT"); (case e => rfl)) | with_reducible refine My.i_fld0 ?_ | with_reducible refine My.i_prop ?_ | with_reducible refine My.i_meth ?_ | with_reducible refine My.i_make ?_ | with_reducible refine My.i_sfld ?_
  | ((with_reducible refine' My.i_fv ?h ?c ?n ?_); (case h => walk_at "look"); (case c => assumption); (case n => assumption)) | ((with_reducible refine' My.i_fo ?h ?c ?n ?_); (case h => walk_at "look"); (case c => assumption); (case n => assumption))
  | ((with_reducible show My.PropQ _ _ _ _ _ _ _); (first | ((refine' My.i_pv ?h ?_); (case h => walk_at "look")) | ((refine' My.i_po ?h ?_); (case h => walk_at "look")))) | ((with_reducible refine' My.i_me ?h ?a ?b ?_); (case h => walk_at "look"); (case a => decide +kernel); (case b => decide +kernel)) | with_reducible refine My.i_lc ?_ | with_reducible refine My.i_for ?_ | with_reducible refine My.i_rng ?_ | with_reducible refine My.i_rngv (by decide) (by decide) ?_ | with_reducible refine My.i_wl ?_ | with_reducible refine My.i_wt ?_ | with_reducible refine My.i_par3 ?_ | with_reducible refine My.i_three ?_
  | ((with_reducible refine' My.i_wtv ?l ?_); (case l => walk_at "lookT")) | ((with_reducible refine' My.i_wlv (L2.SqL.of ?l) ?_); (case l => walk_at "look")) | walk_at "ix" | ((with_reducible refine' My.i_I ?c ?_); (case c => walk_at "side")))
local macro_rules | `(tactic| walk_at "side") => `(tactic| first | assumption | ((show (0 : Int) < _); omega) | (exact My.mulZ (by assumption) (by assumption) (by omega)) | (exact My.divS (by omega) (by omega)) | (exact My.mulS (by omega) (by omega) (by omega) (by omega)) | (exact My.powL (by decide +kernel)) | (exact My.pow3S (by omega) (by omega)))
local macro_rules | `(tactic| walk_at "look") => `(tactic| first | assumption | (apply (‹L2.Same _ _› : L2.Same _ _) _ _; walk_at "look") | ((refine' (‹My.But _ _ _› _ _ ?n ?l); (case n => walk_at "ne")); (case l => walk_at "look")))
local macro_rules | `(tactic| walk_at "ne") => `(tactic| first | assumption | (refine Ne.symm ?_; assumption) | exact L2.ne_of_none (by walk_at "lookS") (by assumption) | exact (L2.ne_of_none (by walk_at "lookS") (by assumption)).symm | exact L2.ne_of (by walk_at "lookS") (by walk_at "lookS") (by intro z; cases z))
local macro_rules | `(tactic| walk_at "lookS") => `(tactic| first | assumption | (apply (‹L2.Same _ _› : L2.Same _ _) _ _; walk_at "lookS"))
local macro_rules | `(tactic| walk_at "ix") => `(tactic| first
  | ((with_reducible refine' My.i_ixsL (L2.SqL.of ?l) ?e ?_); (case l => walk_at "look"); (case e => exact rfl)) | ((with_reducible refine' My.i_ixsT ?l ?e ?_); (case l => walk_at "lookT"); (case e => exact rfl)))
local macro_rules | `(tactic| walk_at "lookT") => `(tactic| first | assumption | exact L2.SqT.of (by walk_at "look") | (apply L2.Same.seqT ‹L2.Same _ _›; walk_at "lookT") | (apply My.Pot.but ‹My.Pot _ _ _› ‹My.But _ _ _›; walk_at "lookT"))
local macro_rules | `(tactic| walk_at "len") => `(tactic| (intro vs H Q E h; first | (obtain ⟨_, e, _⟩ := h; subst e; rfl) | (obtain ⟨_, _, e, _⟩ := h; subst e; rfl) | (obtain ⟨_, _, _, e, _⟩ := h; subst e; rfl) | (obtain ⟨_, _, _, _, e, _⟩ := h; subst e; rfl) | (obtain ⟨_, _, _, _, _, e, _⟩ := h; subst e; rfl) | (obtain ⟨_, _, _, _, _, _, e, _⟩ := h; subst e; rfl) | (obtain ⟨_, _, _, _, _, _, _, e, _⟩ := h; subst e; rfl) | (obtain ⟨_, _, _, _, _, _, _, _, e, _⟩ := h; subst e; rfl) | (obtain ⟨_, _, _, _, _, _, _, _, _, e, _⟩ := h; subst e; rfl) | (obtain ⟨_, _, _, _, _, _, _, _, _, _, e, _⟩ := h; subst e; rfl) | (obtain ⟨_, _, _, _, _, _, _, _, _, _, _, e, _⟩ := h; subst e; rfl) | (obtain ⟨_, _, _, _, _, _, _, _, _, _, _, _, e, _⟩ := h; subst e; rfl) | (obtain ⟨_, _, _, _, _, _, _, _, _, _, _, _, _, e, _⟩ := h; subst e; rfl)))
local macro_rules | `(tactic| walk_at "but") => `(tactic| first | exact My.But.refl _ | assumption | (refine My.But.trans ?_ ‹My.But _ _ _›; walk_at "but") | (refine My.But.trans ?_ (L2.Same.but ‹L2.Same _ _›); walk_at "but"))
local macro_rules | `(tactic| walk_at "same") => `(tactic| first | exact L2.Same.refl _ | assumption | (refine L2.Same.trans ?_ ‹L2.Same _ _›; walk_at "same"))

local macro_rules | `(tactic| walk_at "h") => `(tactic| first | with_reducible refine My.i_mkE0 ?_ | with_reducible refine My.i_errv0 ?_ | with_reducible refine My.i_we ?_)

namespace Lw
open PySem PySem.Spec PyProof.Rows L2 My
def top (i : Nat) : Stmt := PySem.Challenge.pw_rangehunt_k08_errors_and_what_they_keep.main.body.getD i (.Pass ⟨0, 0, 0, 0⟩)
abbrev s__law_pot : Stmt := top 28
abbrev s__law_take : Stmt := top 29
abbrev s__law_of : Stmt := top 30
abbrev s__law_cells : Stmt := top 31
abbrev s__law_value : Stmt := top 32
abbrev s__law_made : Stmt := top 33
abbrev s__law_marks : Stmt := top 34
abbrev s__law_right : Stmt := top 35
abbrev s_law : Stmt := top 36
abbrev s_MeterError___init__ : Stmt := inClass (top 1) 0
def ecs0 : List Str := (["MeterError", "BadRatio", "Short", "BadMany", "BadBench", "NoMeter", "NoLoad", "LastMeter", "BadSpread", "BadSetting", "BadStep", "BadSteps", "TooMany", "BadLog", "NoFit", "Unlike", "BadOffers", "BadHopes", "NotNow", "Hunting", "BadSource", "NothingToUndo", "NothingToRedo", "NoTrial", "BadJournal", "BadLine"] : List Str)
structure Tx (K : PySem.W.Frag) (mg : Str → Option Value) : Prop where
  f__law_pot : GFn K mg "_law_pot" s__law_pot ["_law_script", "_law_place"]
  f__law_take : GFn K mg "_law_take" s__law_take ["_law_pot_here", "_law_upto"]
  f__law_of : GFn K mg "_law_of" s__law_of ["_law_pot_here", "_law_some"]
  f__law_cells : GFn K mg "_law_cells" s__law_cells ["_law_script", "_law_most"]
  f__law_value : GFn K mg "_law_value" s__law_value ["_law_pot_here", "_law_deep"]
  f__law_made : GFn K mg "_law_made" s__law_made ["_law_value_here"]
  f__law_marks : GFn K mg "_law_marks" s__law_marks ["_law_error"]
  f__law_right : GFn K mg "_law_right" s__law_right ["_law_pot_here"]
  f_law : GFn K mg "law" s_law ["_law_script"]
  b_ValueError : mg "ValueError" = none
  b_list : mg "list" = none
  b_enumerate : mg "enumerate" = none
  b_int : mg "int" = none
  b_range : mg "range" = none
  b_tuple : mg "tuple" = none
  b_isinstance : mg "isinstance" = none
  b_len : mg "len" = none
  b_max : mg "max" = none
  b_repr : mg "repr" = none
  b_any : mg "any" = none
  b_all : mg "all" = none
  b_abs : mg "abs" = none
  b_min : mg "min" = none
  d_MeterError___init__ : GMe K (He.ga K "MeterError") "__init__" "MeterError.__init__" s_MeterError___init__ ["self", "value"]
  m_MeterError : mg "MeterError" = some (.ref (He.ga K "MeterError"))
  m_BadRatio : mg "BadRatio" = some (.ref (He.ga K "BadRatio"))
  m_Short : mg "Short" = some (.ref (He.ga K "Short"))
  m_BadMany : mg "BadMany" = some (.ref (He.ga K "BadMany"))
  m_BadBench : mg "BadBench" = some (.ref (He.ga K "BadBench"))
  m_NoMeter : mg "NoMeter" = some (.ref (He.ga K "NoMeter"))
  m_NoLoad : mg "NoLoad" = some (.ref (He.ga K "NoLoad"))
  m_LastMeter : mg "LastMeter" = some (.ref (He.ga K "LastMeter"))
  m_BadSpread : mg "BadSpread" = some (.ref (He.ga K "BadSpread"))
  m_BadSetting : mg "BadSetting" = some (.ref (He.ga K "BadSetting"))
  m_BadStep : mg "BadStep" = some (.ref (He.ga K "BadStep"))
  m_BadSteps : mg "BadSteps" = some (.ref (He.ga K "BadSteps"))
  m_TooMany : mg "TooMany" = some (.ref (He.ga K "TooMany"))
  m_BadLog : mg "BadLog" = some (.ref (He.ga K "BadLog"))
  m_NoFit : mg "NoFit" = some (.ref (He.ga K "NoFit"))
  m_Unlike : mg "Unlike" = some (.ref (He.ga K "Unlike"))
  m_BadOffers : mg "BadOffers" = some (.ref (He.ga K "BadOffers"))
  m_BadHopes : mg "BadHopes" = some (.ref (He.ga K "BadHopes"))
  m_NotNow : mg "NotNow" = some (.ref (He.ga K "NotNow"))
  m_Hunting : mg "Hunting" = some (.ref (He.ga K "Hunting"))
  m_BadSource : mg "BadSource" = some (.ref (He.ga K "BadSource"))
  m_NothingToUndo : mg "NothingToUndo" = some (.ref (He.ga K "NothingToUndo"))
  m_NothingToRedo : mg "NothingToRedo" = some (.ref (He.ga K "NothingToRedo"))
  m_NoTrial : mg "NoTrial" = some (.ref (He.ga K "NoTrial"))
  m_BadJournal : mg "BadJournal" = some (.ref (He.ga K "BadJournal"))
  m_BadLine : mg "BadLine" = some (.ref (He.ga K "BadLine"))
  e_all : ∀ c ∈ ecs0, EOk K (He.ga K c)
  i_all : ∀ c ∈ ecs0, PySem.W.findIn K (.ref (He.ga K c)) "__init__" = some (some (.ref (He.ma K (He.ga K "MeterError") "__init__")))
  t_init : PySem.W.typeIn K (.ref (He.ma K (He.ga K "MeterError") "__init__")) = some (.type "function")
  w_all : ∀ c ∈ ecs0.tail, mroB K (He.ga K c) (He.ga K "MeterError") = true
  w_0 : mroB0 K (He.ga K "MeterError") = true
  dist : (ecs0.map (He.ga K)).Nodup
  y_sys : SysD K
section
variable {P : Program} {w : World} {K : PySem.W.Frag} {mg : Str → Option Value} {base : Heap}
theorem sc__law_pot : FnScope ["_law_script", "_law_place", "_law_cell", "_law_own", "_law_small"] ["_law_script", "_law_place"] (defScope s__law_pot) := ⟨rfl, rfl, rfl, by decide +kernel, rfl, by decide +kernel, by decide +kernel⟩
theorem ok__law_pot (T : Tx K mg) : FnAt P w K mg base CX0 1 (He.ga K "_law_pot") ["_law_script", "_law_place"] (spPot K) := by
  refine T.f__law_pot.f.ok sc__law_pot ?_ (fun cdv A outer s H vs Q E hr h => ?_)
  · walk_at "len"
  · obtain ⟨a, ns, i, rfl, hx, hi, hi2, k⟩ := h
    refine ⟨_, (pss_cons (ps_set (i := 2) sc__law_pot.nd rfl (.inl rfl) (pe_ifExp (pt_cmpR op_lt (pv 1) (pe_callB cr_len rfl T.b_len (by decide +kernel) (pa_cons (pv 0) pa_nil)) (nomark _)) (pe_ix ix_seq (pv 0) (pv 1) (fun _ _ => rfl)) (pe_op op_add (pe_op op_mulW pe_int (pv 1)) pe_int)))
      (pss_cons (ps_set (i := 3) sc__law_pot.nd rfl (.inl rfl) (pe_op op_mulW (pe_op op_mod (pe_callTy cr_int1 rfl T.b_int (by decide +kernel) (pa_cons (pe_callB cr_abs rfl T.b_abs (by decide +kernel) (pa_cons (pv 2) pa_nil)) pa_nil)) (pe_op op_powW (pe_op op_powW pe_int pe_int) pe_int)) (pe_callTy cr_int1 rfl T.b_int (by decide +kernel) (pa_cons (pe_cmpR op_ge (pe_callB cr_abs rfl T.b_abs (by decide +kernel) (pa_cons (pv 2) pa_nil)) (pe_op op_powW pe_int pe_int) (nomark _)) pa_nil))))
      (pss_cons (ps_set (i := 4) sc__law_pot.nd rfl (.inl rfl) (pe_op op_mod (pe_callTy cr_int1 rfl T.b_int (by decide +kernel) (pa_cons (pv 2) pa_nil)) pe_int))
      (pss_one (ps_ret (pe_lst (pa_cons (pv 3) (pa_cons (pe_op op_mod (pe_callTy cr_int1 rfl T.b_int (by decide +kernel) (pa_cons (pe_op op_add (pe_op op_add (pe_op op_mulW (pv 4) pe_int) (pe_op op_mulW (pe_op op_mulW pe_int (pv 1)) (pv 1))) pe_int) pa_nil)) pe_int) (pa_cons pe_int pa_nil))))))))), ?_⟩
    refine My.i_go (σ' := [some _, some _, none, none, none]) rfl ?_
    repeat walk_at "h"
    refine i_lenL hx ?_
    repeat walk_at "h"
    refine i_join (fun v => ∃ z : Int, v = .int z) (fun h1 Q hQ => ?_) (fun h1 Q hQ => ?_) ?_
    · have h1 := of_decide_eq_true h1
      rw [List.length_map] at h1
      repeat walk_at "h"
      obtain ⟨j, rfl⟩ : ∃ j : Nat, i = (j : Int) := ⟨i.toNat, by omega⟩
      have hj : j < ns.length := by omega
      exact i_ixsL hx (atI_nat (j := j) (v := .int ns[j]) (by rw [List.getElem?_map, List.getElem?_eq_getElem hj, Option.map_some])) (hQ _ ⟨_, rfl⟩)
    · repeat walk_at "h"
      exact hQ _ ⟨_, rfl⟩
    · rintro v ⟨z, rfl⟩
      repeat walk_at "h"
      refine i_modQ (by decide +kernel) fun m hm1 hm2 => ?_
      repeat walk_at "h"
      refine i_I (mul01 (pot_lt hm1 hm2)) ?_
      repeat walk_at "h"
      rename_i q H1 S hq e1
      exact k q H1 S hq ⟨_, _, _, e1, mul01_nn hm1, Int.emod_nonneg _ (by decide), Int.lt_trans (Int.emod_lt_of_pos _ (by decide)) (by decide), Int.le_refl _, Int.le_refl _⟩
theorem sc__law_take : FnScope ["_law_pot_here", "_law_upto", "_law_digit", "_law_prime", "_law_mixed"] ["_law_pot_here", "_law_upto"] (defScope s__law_take) := ⟨rfl, rfl, rfl, by decide +kernel, rfl, by decide +kernel, by decide +kernel⟩
theorem ok__law_take (T : Tx K mg) : FnAt P w K mg base CX0 1 (He.ga K "_law_take") ["_law_pot_here", "_law_upto"] spTake := by
  refine T.f__law_take.f.ok sc__law_take ?_ (fun cdv A outer s H vs Q E hr h => ?_)
  · walk_at "len"
  · obtain ⟨p, u, n, rfl, ⟨a, b, c, hp, ha, hb, hb2, hc, hcn⟩, hn, hu, hu2, k⟩ := h
    refine ⟨_, (pss_cons (ps_if (pt_cmpR op_gt (pe_ix ix_seq (pv 0) pe_int (fun _ _ => rfl)) pe_int (nomark _)) (pss_cons (ps_set (i := 2) sc__law_take.nd rfl (.inl rfl) (pe_op op_mod (pe_callTy cr_int1 rfl T.b_int (by decide +kernel) (pa_cons (pe_ix ix_seq (pv 0) pe_int (fun _ _ => rfl)) pa_nil)) (pv 1)))
      (pss_cons (ps_asg (pe_op op_fdivW (pe_ix ix_seq (pv 0) pe_int (fun _ _ => rfl)) (pv 1)) (pg_sub (pv 0) pe_int set_list))
      (pss_one (ps_ret (pv 2))))) pss_nil)
      (pss_cons (ps_asg (pe_op op_add (pe_ix ix_seq (pv 0) pe_int (fun _ _ => rfl)) pe_int) (pg_sub (pv 0) pe_int set_list))
      (pss_cons (ps_set (i := 3) sc__law_take.nd rfl (.inl rfl) (pe_ix ix_seq (pe_lst (pa_cons pe_int (pa_cons pe_int (pa_cons pe_int (pa_cons pe_int (pa_cons pe_int pa_nil)))))) (pe_op op_mod (pe_callTy cr_int1 rfl T.b_int (by decide +kernel) (pa_cons (pe_ix ix_seq (pv 0) pe_int (fun _ _ => rfl)) pa_nil)) pe_int) (fun _ _ => rfl)))
      (pss_cons (ps_set (i := 4) sc__law_take.nd rfl (.inl rfl) (pe_op op_mod (pe_callTy cr_int1 rfl T.b_int (by decide +kernel) (pa_cons (pe_op op_powW (pe_callTy cr_int1 rfl T.b_int (by decide +kernel) (pa_cons (pe_op op_add (pe_op op_add (pe_ix ix_seq (pv 0) pe_int (fun _ _ => rfl)) (pe_op op_mulW (pe_op op_mulW pe_int (pe_ix ix_seq (pv 0) pe_int (fun _ _ => rfl))) (pe_ix ix_seq (pv 0) pe_int (fun _ _ => rfl)))) pe_int) pa_nil)) pe_int) pa_nil)) (pv 3)))
      (pss_cons (ps_set (i := 4) sc__law_take.nd rfl (.inl rfl) (pe_op op_mod (pe_callTy cr_int1 rfl T.b_int (by decide +kernel) (pa_cons (pe_op op_mulW (pv 4) (pe_op op_add (pe_op op_mod (pe_callTy cr_int1 rfl T.b_int (by decide +kernel) (pa_cons (pv 4) pa_nil)) pe_int) (pe_op op_mulW pe_int (pe_ix ix_seq (pv 0) pe_int (fun _ _ => rfl))))) pa_nil)) pe_int))
      (pss_one (ps_ret (pe_op op_mod (pe_callTy cr_int1 rfl T.b_int (by decide +kernel) (pa_cons (pe_op op_fdivW (pv 4) pe_int) pa_nil)) (pv 1))))))))), ?_⟩
    refine My.i_go (σ' := [some _, some _, none, none, none]) rfl ?_
    repeat walk_at "h"
    refine ite2 (fun h1 => ?_) (fun h1 => ?_)
    · repeat walk_at "h"
      exact k _ _ (Int.emod_nonneg _ (by omega)) (Int.emod_lt_of_pos _ hu) ⟨_, _, _, by walk_at "look", Int.ediv_nonneg ha (by omega), hb, hb2, hc, by omega⟩ (by walk_at "but")
    · repeat walk_at "h"
      obtain ⟨v, hv, hm⟩ := atI_mem (xs := [V.int 2147483647, V.int 2147483629, V.int 2147483587, V.int 2147483579, V.int 2147483563]) (i := (c + 1) % 5) (Int.emod_nonneg _ (by omega)) (by simp only [List.length]; omega)
      obtain ⟨q, rfl, hq1, hq2⟩ : ∃ q : Int, v = .int q ∧ 2147483562 < q ∧ q < 2147483648 := by
        simp only [List.mem_cons, List.not_mem_nil, or_false] at hm
        rcases hm with rfl | rfl | rfl | rfl | rfl <;> exact ⟨_, rfl, by decide, by decide⟩
      refine i_ixsL (SqL.of (by walk_at "look")) hv ?_
      repeat walk_at "h"
      refine i_I (pow3Q hb hb2 (by decide) (by decide) (by omega) (by omega) (by decide) (by decide)) ?_
      iterate 3 walk_at "h"
      refine i_modQ (by omega) fun m hm1 hm2 => ?_
      repeat walk_at "h"
      exact k _ _ (Int.emod_nonneg _ (by omega)) (Int.emod_lt_of_pos _ hu) ⟨_, _, _, by walk_at "look", ha, hb, hb2, by omega, by omega⟩ (by walk_at "but")
theorem sc__law_cells : FnScope ["_law_script", "_law_most"] ["_law_script", "_law_most"] (defScope s__law_cells) := ⟨rfl, rfl, rfl, by decide +kernel, rfl, by decide +kernel, by decide +kernel⟩
theorem ok__law_cells (T : Tx K mg) : FnAt P w K mg base CX0 1 (He.ga K "_law_cells") ["_law_script", "_law_most"] (spCells K) := by
  refine T.f__law_cells.f.ok sc__law_cells ?_ (fun cdv A outer s H vs Q E hr h => ?_)
  · walk_at "len"
  · obtain ⟨a, ns, m, rfl, hx, hl, hm, k⟩ := h
    refine ⟨_, (pss_one (ps_ret (pe_listRg rfl rfl T.b_list (prg_1 rfl T.b_range (pe_callB (cr_max2 rfl) rfl T.b_max (by decide +kernel) (pa_cons pe_int (pa_cons (pe_callB (cr_min2 rfl) rfl T.b_min (by decide +kernel) (pa_cons (pv 1) (pa_cons (pe_callB cr_len rfl T.b_len (by decide +kernel) (pa_cons (pv 0) pa_nil)) pa_nil))) pa_nil))))))), ?_⟩
    refine My.i_go (σ' := [some _, some _]) rfl ?_
    repeat walk_at "h"
    refine i_lenL hx ?_
    repeat walk_at "h"
    rw [List.length_map]
    generalize e : (if (if (ns.length : Int) < m then (ns.length : Int) else m) > 1 then (if (ns.length : Int) < m then (ns.length : Int) else m) else 1) = j
    have hj : 1 ≤ j ∧ j ≤ 100 := by split at e <;> split at e <;> omega
    obtain ⟨i, rfl⟩ : ∃ i : Nat, j = (i : Int) := ⟨j.toNat, by omega⟩
    exact i_newR (.of_le (by omega) (by omega) (by omega) (by omega)) fun q H1 S hq e1 => k q H1 i (by omega) S hq e1
theorem sc__law_marks : FnScope ["_law_error", "_law_found"] ["_law_error"] (defScope s__law_marks) := ⟨rfl, rfl, rfl, by decide +kernel, rfl, by decide +kernel, by decide +kernel⟩
theorem ok__law_marks (T : Tx K mg) : FnAt P w K mg base CX0 1 (He.ga K "_law_marks") ["_law_error"] (spMarks K) := by
  refine T.f__law_marks.f.ok sc__law_marks ?_ (fun cdv A outer s H vs Q E hr h => ?_)
  · walk_at "len"
  · obtain ⟨a, C, v, f, rfl, hA, hT, hk, k⟩ := h
    refine ⟨_, (pss_cons (ps_set (i := 1) sc__law_marks.nd rfl (.inl rfl) (pe_lst (pa_cons (pe_callB call_isEr rfl T.b_isinstance (by decide +kernel) (pa_cons (pv 0) (pa_cons (pe_glob (v := .ref _) rfl T.m_BadRatio rfl) pa_nil))) (pa_cons (pe_callB call_isEr rfl T.b_isinstance (by decide +kernel) (pa_cons (pv 0) (pa_cons (pe_glob (v := .ref _) rfl T.m_Short rfl) pa_nil))) (pa_cons (pe_callB call_isEr rfl T.b_isinstance (by decide +kernel) (pa_cons (pv 0) (pa_cons (pe_glob (v := .ref _) rfl T.m_BadMany rfl) pa_nil))) pa_nil)))))
      (pss_cons (ps_expr (pe_bm PySem.F.plainAttrs_list PySem.F.slot_list_extend PySem.F.type_list_extend mt_extend (pv 1) (pa_cons (pe_lst (pa_cons (pe_callB call_isEr rfl T.b_isinstance (by decide +kernel) (pa_cons (pv 0) (pa_cons (pe_glob (v := .ref _) rfl T.m_BadBench rfl) pa_nil))) (pa_cons (pe_callB call_isEr rfl T.b_isinstance (by decide +kernel) (pa_cons (pv 0) (pa_cons (pe_glob (v := .ref _) rfl T.m_NoMeter rfl) pa_nil))) (pa_cons (pe_callB call_isEr rfl T.b_isinstance (by decide +kernel) (pa_cons (pv 0) (pa_cons (pe_glob (v := .ref _) rfl T.m_NoLoad rfl) pa_nil))) pa_nil)))) pa_nil)))
      (pss_cons (ps_expr (pe_bm PySem.F.plainAttrs_list PySem.F.slot_list_extend PySem.F.type_list_extend mt_extend (pv 1) (pa_cons (pe_lst (pa_cons (pe_callB call_isEr rfl T.b_isinstance (by decide +kernel) (pa_cons (pv 0) (pa_cons (pe_glob (v := .ref _) rfl T.m_LastMeter rfl) pa_nil))) (pa_cons (pe_callB call_isEr rfl T.b_isinstance (by decide +kernel) (pa_cons (pv 0) (pa_cons (pe_glob (v := .ref _) rfl T.m_BadSpread rfl) pa_nil))) (pa_cons (pe_callB call_isEr rfl T.b_isinstance (by decide +kernel) (pa_cons (pv 0) (pa_cons (pe_glob (v := .ref _) rfl T.m_BadSetting rfl) pa_nil))) pa_nil)))) pa_nil)))
      (pss_cons (ps_expr (pe_bm PySem.F.plainAttrs_list PySem.F.slot_list_extend PySem.F.type_list_extend mt_extend (pv 1) (pa_cons (pe_lst (pa_cons (pe_callB call_isEr rfl T.b_isinstance (by decide +kernel) (pa_cons (pv 0) (pa_cons (pe_glob (v := .ref _) rfl T.m_BadStep rfl) pa_nil))) (pa_cons (pe_callB call_isEr rfl T.b_isinstance (by decide +kernel) (pa_cons (pv 0) (pa_cons (pe_glob (v := .ref _) rfl T.m_BadSteps rfl) pa_nil))) (pa_cons (pe_callB call_isEr rfl T.b_isinstance (by decide +kernel) (pa_cons (pv 0) (pa_cons (pe_glob (v := .ref _) rfl T.m_TooMany rfl) pa_nil))) pa_nil)))) pa_nil)))
      (pss_cons (ps_expr (pe_bm PySem.F.plainAttrs_list PySem.F.slot_list_extend PySem.F.type_list_extend mt_extend (pv 1) (pa_cons (pe_lst (pa_cons (pe_callB call_isEr rfl T.b_isinstance (by decide +kernel) (pa_cons (pv 0) (pa_cons (pe_glob (v := .ref _) rfl T.m_BadLog rfl) pa_nil))) (pa_cons (pe_callB call_isEr rfl T.b_isinstance (by decide +kernel) (pa_cons (pv 0) (pa_cons (pe_glob (v := .ref _) rfl T.m_NoFit rfl) pa_nil))) (pa_cons (pe_callB call_isEr rfl T.b_isinstance (by decide +kernel) (pa_cons (pv 0) (pa_cons (pe_glob (v := .ref _) rfl T.m_Unlike rfl) pa_nil))) pa_nil)))) pa_nil)))
      (pss_cons (ps_expr (pe_bm PySem.F.plainAttrs_list PySem.F.slot_list_extend PySem.F.type_list_extend mt_extend (pv 1) (pa_cons (pe_lst (pa_cons (pe_callB call_isEr rfl T.b_isinstance (by decide +kernel) (pa_cons (pv 0) (pa_cons (pe_glob (v := .ref _) rfl T.m_BadOffers rfl) pa_nil))) (pa_cons (pe_callB call_isEr rfl T.b_isinstance (by decide +kernel) (pa_cons (pv 0) (pa_cons (pe_glob (v := .ref _) rfl T.m_BadHopes rfl) pa_nil))) (pa_cons (pe_callB call_isEr rfl T.b_isinstance (by decide +kernel) (pa_cons (pv 0) (pa_cons (pe_glob (v := .ref _) rfl T.m_NotNow rfl) pa_nil))) pa_nil)))) pa_nil)))
      (pss_cons (ps_expr (pe_bm PySem.F.plainAttrs_list PySem.F.slot_list_extend PySem.F.type_list_extend mt_extend (pv 1) (pa_cons (pe_lst (pa_cons (pe_callB call_isEr rfl T.b_isinstance (by decide +kernel) (pa_cons (pv 0) (pa_cons (pe_glob (v := .ref _) rfl T.m_Hunting rfl) pa_nil))) (pa_cons (pe_callB call_isEr rfl T.b_isinstance (by decide +kernel) (pa_cons (pv 0) (pa_cons (pe_glob (v := .ref _) rfl T.m_BadSource rfl) pa_nil))) (pa_cons (pe_callB call_isEr rfl T.b_isinstance (by decide +kernel) (pa_cons (pv 0) (pa_cons (pe_glob (v := .ref _) rfl T.m_NothingToUndo rfl) pa_nil))) pa_nil)))) pa_nil)))
      (pss_cons (ps_expr (pe_bm PySem.F.plainAttrs_list PySem.F.slot_list_extend PySem.F.type_list_extend mt_extend (pv 1) (pa_cons (pe_lst (pa_cons (pe_callB call_isEr rfl T.b_isinstance (by decide +kernel) (pa_cons (pv 0) (pa_cons (pe_glob (v := .ref _) rfl T.m_NothingToRedo rfl) pa_nil))) (pa_cons (pe_callB call_isEr rfl T.b_isinstance (by decide +kernel) (pa_cons (pv 0) (pa_cons (pe_glob (v := .ref _) rfl T.m_NoTrial rfl) pa_nil))) (pa_cons (pe_callB call_isEr rfl T.b_isinstance (by decide +kernel) (pa_cons (pv 0) (pa_cons (pe_glob (v := .ref _) rfl T.m_BadJournal rfl) pa_nil))) pa_nil)))) pa_nil)))
      (pss_one (ps_ret (pe_op op_cat (pv 1) (pe_lst (pa_cons (pe_callB call_isEr rfl T.b_isinstance (by decide +kernel) (pa_cons (pv 0) (pa_cons (pe_glob (v := .ref _) rfl T.m_BadLine rfl) pa_nil))) pa_nil))))))))))))), ?_⟩
    refine My.i_go (σ' := [some _, none]) rfl ?_
    repeat walk_at "h"
    have T0 : Same H H := .refl _
    refine i_isE hA hT (hk "BadRatio" (by decide +kernel)) ?_
    repeat walk_at "h"
    refine i_isE hA hT (hk "Short" (by decide +kernel)) ?_
    repeat walk_at "h"
    refine i_isE hA hT (hk "BadMany" (by decide +kernel)) ?_
    repeat walk_at "h"
    rename_i l G S l0 hl
    have hA := hA.same S
    have T1 : Same H G := S
    have lN : H l = none := l0
    clear S l0
    have T0 := T1
    clear T1
    refine i_isE hA hT (hk "BadBench" (by decide +kernel)) ?_
    repeat walk_at "h"
    refine i_isE hA hT (hk "NoMeter" (by decide +kernel)) ?_
    repeat walk_at "h"
    refine i_isE hA hT (hk "NoLoad" (by decide +kernel)) ?_
    repeat walk_at "h"
    rename_i b G S b0 hb
    have hl := S _ _ hl
    refine i_ext hl hb (Nat.le_of_ble_eq_true rfl) fun G2 B2 hl2 => ?_
    have hA := (hA.same S).but hl B2
    have T1 : Same H G2 := fun c o z => B2 c o (ne_of_none z lN) (S _ _ (T0 _ _ z))
    clear hb B2 S hl T0 b0
    have hl := hl2
    have T0 := T1
    clear hl2 T1
    repeat walk_at "h"
    refine i_isE hA hT (hk "LastMeter" (by decide +kernel)) ?_
    repeat walk_at "h"
    refine i_isE hA hT (hk "BadSpread" (by decide +kernel)) ?_
    repeat walk_at "h"
    refine i_isE hA hT (hk "BadSetting" (by decide +kernel)) ?_
    repeat walk_at "h"
    rename_i b G S b0 hb
    have hl := S _ _ hl
    refine i_ext hl hb (Nat.le_of_ble_eq_true rfl) fun G2 B2 hl2 => ?_
    have hA := (hA.same S).but hl B2
    have T1 : Same H G2 := fun c o z => B2 c o (ne_of_none z lN) (S _ _ (T0 _ _ z))
    clear hb B2 S hl T0 b0
    have hl := hl2
    have T0 := T1
    clear hl2 T1
    repeat walk_at "h"
    refine i_isE hA hT (hk "BadStep" (by decide +kernel)) ?_
    repeat walk_at "h"
    refine i_isE hA hT (hk "BadSteps" (by decide +kernel)) ?_
    repeat walk_at "h"
    refine i_isE hA hT (hk "TooMany" (by decide +kernel)) ?_
    repeat walk_at "h"
    rename_i b G S b0 hb
    have hl := S _ _ hl
    refine i_ext hl hb (Nat.le_of_ble_eq_true rfl) fun G2 B2 hl2 => ?_
    have hA := (hA.same S).but hl B2
    have T1 : Same H G2 := fun c o z => B2 c o (ne_of_none z lN) (S _ _ (T0 _ _ z))
    clear hb B2 S hl T0 b0
    have hl := hl2
    have T0 := T1
    clear hl2 T1
    repeat walk_at "h"
    refine i_isE hA hT (hk "BadLog" (by decide +kernel)) ?_
    repeat walk_at "h"
    refine i_isE hA hT (hk "NoFit" (by decide +kernel)) ?_
    repeat walk_at "h"
    refine i_isE hA hT (hk "Unlike" (by decide +kernel)) ?_
    repeat walk_at "h"
    rename_i b G S b0 hb
    have hl := S _ _ hl
    refine i_ext hl hb (Nat.le_of_ble_eq_true rfl) fun G2 B2 hl2 => ?_
    have hA := (hA.same S).but hl B2
    have T1 : Same H G2 := fun c o z => B2 c o (ne_of_none z lN) (S _ _ (T0 _ _ z))
    clear hb B2 S hl T0 b0
    have hl := hl2
    have T0 := T1
    clear hl2 T1
    repeat walk_at "h"
    refine i_isE hA hT (hk "BadOffers" (by decide +kernel)) ?_
    repeat walk_at "h"
    refine i_isE hA hT (hk "BadHopes" (by decide +kernel)) ?_
    repeat walk_at "h"
    refine i_isE hA hT (hk "NotNow" (by decide +kernel)) ?_
    repeat walk_at "h"
    rename_i b G S b0 hb
    have hl := S _ _ hl
    refine i_ext hl hb (Nat.le_of_ble_eq_true rfl) fun G2 B2 hl2 => ?_
    have hA := (hA.same S).but hl B2
    have T1 : Same H G2 := fun c o z => B2 c o (ne_of_none z lN) (S _ _ (T0 _ _ z))
    clear hb B2 S hl T0 b0
    have hl := hl2
    have T0 := T1
    clear hl2 T1
    repeat walk_at "h"
    refine i_isE hA hT (hk "Hunting" (by decide +kernel)) ?_
    repeat walk_at "h"
    refine i_isE hA hT (hk "BadSource" (by decide +kernel)) ?_
    repeat walk_at "h"
    refine i_isE hA hT (hk "NothingToUndo" (by decide +kernel)) ?_
    repeat walk_at "h"
    rename_i b G S b0 hb
    have hl := S _ _ hl
    refine i_ext hl hb (Nat.le_of_ble_eq_true rfl) fun G2 B2 hl2 => ?_
    have hA := (hA.same S).but hl B2
    have T1 : Same H G2 := fun c o z => B2 c o (ne_of_none z lN) (S _ _ (T0 _ _ z))
    clear hb B2 S hl T0 b0
    have hl := hl2
    have T0 := T1
    clear hl2 T1
    repeat walk_at "h"
    refine i_isE hA hT (hk "NothingToRedo" (by decide +kernel)) ?_
    repeat walk_at "h"
    refine i_isE hA hT (hk "NoTrial" (by decide +kernel)) ?_
    repeat walk_at "h"
    refine i_isE hA hT (hk "BadJournal" (by decide +kernel)) ?_
    repeat walk_at "h"
    rename_i b G S b0 hb
    have hl := S _ _ hl
    refine i_ext hl hb (Nat.le_of_ble_eq_true rfl) fun G2 B2 hl2 => ?_
    have hA := (hA.same S).but hl B2
    have T1 : Same H G2 := fun c o z => B2 c o (ne_of_none z lN) (S _ _ (T0 _ _ z))
    clear hb B2 S hl T0 b0
    have hl := hl2
    have T0 := T1
    clear hl2 T1
    repeat walk_at "h"
    refine i_isE hA hT (hk "BadLine" (by decide +kernel)) ?_
    repeat walk_at "h"
    rename_i b G S b0 hb
    refine i_cat (S _ _ hl) hb (Nat.le_of_ble_eq_true rfl) fun t G2 S2 t0 ht => ?_
    repeat walk_at "h"
    exact k t G2 (T0.trans (S.trans S2)) (T0.free (S.free t0)) ht
theorem sc_MeterError___init__ : FnScope ["self", "value"] ["self", "value"] (defScope s_MeterError___init__) := ⟨rfl, rfl, rfl, by decide +kernel, rfl, by decide +kernel, by decide +kernel⟩
theorem ok_MeterError___init__ (T : Tx K mg) : FnAt P w K mg base CX0 1 (He.ma K (He.ga K "MeterError") "__init__") ["self", "value"] (spErrInit K) := by
  refine T.d_MeterError___init__.f.ok sc_MeterError___init__ ?_ (fun cdv A outer s H vs Q E hr h => ?_)
  · walk_at "len"
  · obtain ⟨a, C, v, rfl, hx, T0, k⟩ := h
    refine ⟨_, (pss_one (ps_ost (pv 0) (pv 1))), ?_⟩
    refine My.i_go (σ' := [some _, some _]) rfl ?_
    show tOst _ _ _ _ _ _ _
    unfold tOst
    repeat walk_at "h"
    refine ⟨a, C, rfl, T0.o, T0.no, .inl ⟨hx, fun dx hd ne => ?_⟩⟩
    exact k _ (fun b o n z => by rw [upd_ne n, upd_ne (ne_of_none z hd)]; exact z) ⟨dx, upd_same, by rw [upd_ne ne]; exact upd_same⟩
theorem sc__law_of : FnScope ["_law_pot_here", "_law_some"] ["_law_pot_here", "_law_some"] (defScope s__law_of) := ⟨rfl, rfl, rfl, by decide +kernel, rfl, by decide +kernel, by decide +kernel⟩
theorem ok__law_of (T : Tx K mg) : FnAt P w K mg base CX0 2 (He.ga K "_law_of") ["_law_pot_here", "_law_some"] (spOf K) := by
  refine T.f__law_of.f.ok sc__law_of ?_ (fun cdv A outer s H vs Q E hr h => ?_)
  · walk_at "len"
  · obtain ⟨p, q, xs, n, rfl, hP, hn, hqp, hx, hx0, hx1, k⟩ := h
    refine ⟨_, (pss_one (ps_ret (pe_ix ix_seq (pv 1) (pe_fn T.f__law_take (ok__law_take T) (hr.mono (by decide)) (pa_cons (pv 0) (pa_cons (pe_callB cr_len rfl T.b_len (by decide +kernel) (pa_cons (pv 1) pa_nil)) pa_nil))) (fun _ _ => rfl)))), ?_⟩
    refine My.i_go (σ' := [some _, some _]) rfl ?_
    repeat walk_at "h"
    refine i_lenL hx ?_
    repeat walk_at "h"
    refine ⟨p, xs.length, n, rfl, hP, hn, by omega, by omega, fun r H' h0 h1 hP' hB => ?_⟩
    obtain ⟨v, hv, hm⟩ := atI_mem h0 h1
    exact i_ixsL (hB.seq hqp hx) hv (k v H' hm hP' hB)
theorem sc__law_value : FnScope ["_law_pot_here", "_law_deep", "_law_way", "_law_lap"] ["_law_pot_here", "_law_deep"] (defScope s__law_value) := ⟨rfl, rfl, rfl, by decide +kernel, rfl, by decide +kernel, by decide +kernel⟩
theorem ok__law_value_F (T : Tx K mg) : FnAt P w K mg base CX0 1 (He.ga K "_law_value") ["_law_pot_here", "_law_deep"] spNo := ⟨fun _ _ _ _ h => h.elim, fun _ _ _ _ _ _ _ _ _ _ _ _ _ h => h.elim⟩
theorem ok__law_value_0 (T : Tx K mg) : FnAt P w K mg base CX0 3 (He.ga K "_law_value") ["_law_pot_here", "_law_deep"] (spVal 0 0) := by
  refine T.f__law_value.f.ok sc__law_value ?_ (fun cdv A outer s H vs Q E hr h => ?_)
  · walk_at "len"
  · obtain ⟨p, m, rfl, hP, hm, k⟩ := h
    refine ⟨_, (pss_cons (ps_set (i := 2) sc__law_value.nd rfl (.inl rfl) (pe_ifExp (pt_cmpR op_gt (pv 1) pe_int (nomark _)) (pe_fn T.f__law_take (ok__law_take T) (hr.mono (by decide)) (pa_cons (pv 0) (pa_cons pe_int pa_nil))) pe_int))
      (pss_cons (ps_if (pt_cmpR op_eq (pv 2) pe_int (nomark _)) (pss_one (ps_ret (pe_callTy cr_tupOf rfl T.b_tuple (by decide +kernel) (pa_cons (pe_lc (own := [("_law_lap", 3)]) rfl sc__law_value.nd (pi_range1 rfl T.b_range (pa_cons (pe_fn T.f__law_take (ok__law_take T) (hr.mono (by decide)) (pa_cons (pv 0) (pa_cons pe_int pa_nil))) pa_nil)) (blkOk_by (own := [("_law_lap", 3)]) (N := ["_law_pot_here", "_law_deep", "_law_way", "_law_lap"]) (sc := defScope s__law_value) (by decide +kernel)) (fun _ _ _ _ _ => (pg_name (i := 3) sc__law_value.nd rfl (.inl rfl))) (fun _ _ _ _ _ => pts_nil) (fun _ _ _ _ _ => (pe_fn T.f__law_value (ok__law_value_F T) (hr.mono (by decide)) (pa_cons (pv 0) (pa_cons (pe_op op_sub (pv 1) pe_int) pa_nil))))) pa_nil)))) pss_nil)
      (pss_cons (ps_if (pt_cmpR op_eq (pv 2) pe_int (nomark _)) (pss_one (ps_ret (pe_lc (own := [("_law_lap", 3)]) rfl sc__law_value.nd (pi_range1 rfl T.b_range (pa_cons (pe_fn T.f__law_take (ok__law_take T) (hr.mono (by decide)) (pa_cons (pv 0) (pa_cons pe_int pa_nil))) pa_nil)) (blkOk_by (own := [("_law_lap", 3)]) (N := ["_law_pot_here", "_law_deep", "_law_way", "_law_lap"]) (sc := defScope s__law_value) (by decide +kernel)) (fun _ _ _ _ _ => (pg_name (i := 3) sc__law_value.nd rfl (.inl rfl))) (fun _ _ _ _ _ => pts_nil) (fun _ _ _ _ _ => (pe_fn T.f__law_value (ok__law_value_F T) (hr.mono (by decide)) (pa_cons (pv 0) (pa_cons (pe_op op_sub (pv 1) pe_int) pa_nil))))))) pss_nil)
      (pss_cons (ps_if (pt_cmpR op_eq (pv 2) pe_int (nomark _)) (pss_one (ps_ret (pe_disp (pps_cons pe_str (pe_fn T.f__law_value (ok__law_value_F T) (hr.mono (by decide)) (pa_cons (pv 0) (pa_cons (pe_op op_sub (pv 1) pe_int) pa_nil))) pps_nil) (by rfl) (by rfl) (fun z => by cases z) (by decide)))) pss_nil)
      (pss_one (ps_ret (pe_fn T.f__law_of (ok__law_of T) (hr.mono (by decide)) (pa_cons (pv 0) (pa_cons (pe_lst (pa_cons pe_non (pa_cons pe_bl (pa_cons pe_bl (pa_cons pe_int (pa_cons pe_int (pa_cons (pe_un un_neg pe_int) (pa_cons (pe_op op_powW pe_int pe_int) (pa_cons pe_str (pa_cons pe_str (pa_cons pe_str (pa_cons (pe_tup pa_nil) (pa_cons (pe_lst pa_nil) (pa_cons pe_dnewK (pa_cons (pe_tup (pa_cons pe_int (pa_cons pe_int pa_nil))) (pa_cons (pe_tup (pa_cons pe_str (pa_cons pe_str pa_nil))) pa_nil)))))))))))))))) pa_nil))))))))), ?_⟩
    refine My.i_go (σ' := [some _, some _, none, none]) rfl ?_
    have NN : ∀ a, H a = none → H a = none := fun _ z => z
    have h00 : cst 0 = 1 := rfl
    have PN : H p ≠ none := by obtain ⟨_, _, _, z, _⟩ := id hP; rw [z]; exact fun q => by cases q
    have PP := hP
    repeat walk_at "h"
    refine ite_dn (by decide) ?_
    repeat walk_at "h"
    refine i_eqF (by decide) ?_
    repeat walk_at "h"
    refine i_eqF (by decide) ?_
    repeat walk_at "h"
    refine i_eqF (by decide) ?_
    repeat walk_at "h"
    refine i_dnew fun d3 H3 S3 f3 e3 => ?_
    repeat walk_at "h"
    rename_i t1 H1 S1 f1 e1 l2 H2 S2 f2 e2 t4 H4 S4 f4 e4 t5 H5 S5 f5 e5 l6 H6 S6 f6 e6
    have T5 := (((S1.trans S2).trans S3).trans S4).trans S5
    have PP6 := PP.same (T5.trans S6)
    have f1 := NN _ f1
    have f2 := NN _ (S1.free f2)
    have f3 := NN _ (S1.free (S2.free f3))
    have f4 := NN _ (S1.free (S2.free (S3.free f4)))
    have f5 := NN _ (S1.free (S2.free (S3.free (S4.free f5))))
    have nl : p ≠ l6 := (PP.same T5).ne f6
    refine ⟨p, l6, Leafs t1 l2 d3 t4 t5, _, rfl, PP6, by omega, nl.symm, .of e6, by show 0 < 15; decide, by show 15 < 1000000; decide, fun v H7 hv P7 B7 => ?_⟩
    have up : ∀ {a : Addr} {o : HO}, H a = none → H6 a = some o → H7 a = some o := fun {a o} n z => B7 a o (fun q => by rw [q] at n; exact PN n) z
    obtain ⟨d, hd⟩ := leaf_dv (F := fun a => H a = none) hv f1 f2 f3 f4 f5 (up f1 (S6 _ _ (S5 _ _ (S4 _ _ (S3 _ _ (S2 _ _ e1)))))) (up f2 (S6 _ _ (S5 _ _ (S4 _ _ (S3 _ _ e2))))) (up f3 (S6 _ _ (S5 _ _ (S4 _ _ e3)))) (up f4 (S6 _ _ (S5 _ _ e4))) (up f5 (S6 _ _ e5))
    exact k v d H7 hd (P7.mono (by show m + 1 ≤ m + 1; omega)) (fun c o n z => B7 c o n (S6 _ _ (T5 _ _ z)))
theorem sc__law_made : FnScope ["_law_value_here", "_law_found"] ["_law_value_here"] (defScope s__law_made) := ⟨rfl, rfl, rfl, by decide +kernel, rfl, by decide +kernel, by decide +kernel⟩
theorem ok__law_made (T : Tx K mg) : FnAt P w K mg base CX0 3 (He.ga K "_law_made") ["_law_value_here"] (spMade K) := by
  refine T.f__law_made.f.ok sc__law_made ?_ (fun cdv A outer s H vs Q E hr h => ?_)
  · walk_at "len"
  · obtain ⟨v, rfl, k⟩ := h
    refine ⟨_, (pss_cons (ps_set (i := 1) sc__law_made.nd rfl (.inl rfl) (pe_lst (pa_cons (pe_mkE (T.e_all "BadRatio" (by decide +kernel)).o (T.i_all "BadRatio" (by decide +kernel)) T.t_init T.m_BadRatio (ok_MeterError___init__ T) T.d_MeterError___init__.b (hr.mono (by decide)) (pa_cons (pv 0) pa_nil)) (pa_cons (pe_mkE (T.e_all "Short" (by decide +kernel)).o (T.i_all "Short" (by decide +kernel)) T.t_init T.m_Short (ok_MeterError___init__ T) T.d_MeterError___init__.b (hr.mono (by decide)) (pa_cons (pv 0) pa_nil)) (pa_cons (pe_mkE (T.e_all "BadMany" (by decide +kernel)).o (T.i_all "BadMany" (by decide +kernel)) T.t_init T.m_BadMany (ok_MeterError___init__ T) T.d_MeterError___init__.b (hr.mono (by decide)) (pa_cons (pv 0) pa_nil)) (pa_cons (pe_mkE (T.e_all "BadBench" (by decide +kernel)).o (T.i_all "BadBench" (by decide +kernel)) T.t_init T.m_BadBench (ok_MeterError___init__ T) T.d_MeterError___init__.b (hr.mono (by decide)) (pa_cons (pv 0) pa_nil)) (pa_cons (pe_mkE (T.e_all "NoMeter" (by decide +kernel)).o (T.i_all "NoMeter" (by decide +kernel)) T.t_init T.m_NoMeter (ok_MeterError___init__ T) T.d_MeterError___init__.b (hr.mono (by decide)) (pa_cons (pv 0) pa_nil)) (pa_cons (pe_mkE (T.e_all "NoLoad" (by decide +kernel)).o (T.i_all "NoLoad" (by decide +kernel)) T.t_init T.m_NoLoad (ok_MeterError___init__ T) T.d_MeterError___init__.b (hr.mono (by decide)) (pa_cons (pv 0) pa_nil)) pa_nil))))))))
      (pss_cons (ps_expr (pe_bm PySem.F.plainAttrs_list PySem.F.slot_list_extend PySem.F.type_list_extend mt_extend (pv 1) (pa_cons (pe_lst (pa_cons (pe_mkE (T.e_all "LastMeter" (by decide +kernel)).o (T.i_all "LastMeter" (by decide +kernel)) T.t_init T.m_LastMeter (ok_MeterError___init__ T) T.d_MeterError___init__.b (hr.mono (by decide)) (pa_cons (pv 0) pa_nil)) (pa_cons (pe_mkE (T.e_all "BadSpread" (by decide +kernel)).o (T.i_all "BadSpread" (by decide +kernel)) T.t_init T.m_BadSpread (ok_MeterError___init__ T) T.d_MeterError___init__.b (hr.mono (by decide)) (pa_cons (pv 0) pa_nil)) (pa_cons (pe_mkE (T.e_all "BadSetting" (by decide +kernel)).o (T.i_all "BadSetting" (by decide +kernel)) T.t_init T.m_BadSetting (ok_MeterError___init__ T) T.d_MeterError___init__.b (hr.mono (by decide)) (pa_cons (pv 0) pa_nil)) (pa_cons (pe_mkE (T.e_all "BadStep" (by decide +kernel)).o (T.i_all "BadStep" (by decide +kernel)) T.t_init T.m_BadStep (ok_MeterError___init__ T) T.d_MeterError___init__.b (hr.mono (by decide)) (pa_cons (pv 0) pa_nil)) (pa_cons (pe_mkE (T.e_all "BadSteps" (by decide +kernel)).o (T.i_all "BadSteps" (by decide +kernel)) T.t_init T.m_BadSteps (ok_MeterError___init__ T) T.d_MeterError___init__.b (hr.mono (by decide)) (pa_cons (pv 0) pa_nil)) pa_nil)))))) pa_nil)))
      (pss_cons (ps_expr (pe_bm PySem.F.plainAttrs_list PySem.F.slot_list_extend PySem.F.type_list_extend mt_extend (pv 1) (pa_cons (pe_lst (pa_cons (pe_mkE (T.e_all "TooMany" (by decide +kernel)).o (T.i_all "TooMany" (by decide +kernel)) T.t_init T.m_TooMany (ok_MeterError___init__ T) T.d_MeterError___init__.b (hr.mono (by decide)) (pa_cons (pv 0) pa_nil)) (pa_cons (pe_mkE (T.e_all "BadLog" (by decide +kernel)).o (T.i_all "BadLog" (by decide +kernel)) T.t_init T.m_BadLog (ok_MeterError___init__ T) T.d_MeterError___init__.b (hr.mono (by decide)) (pa_cons (pv 0) pa_nil)) (pa_cons (pe_mkE (T.e_all "NoFit" (by decide +kernel)).o (T.i_all "NoFit" (by decide +kernel)) T.t_init T.m_NoFit (ok_MeterError___init__ T) T.d_MeterError___init__.b (hr.mono (by decide)) (pa_cons (pv 0) pa_nil)) (pa_cons (pe_mkE (T.e_all "Unlike" (by decide +kernel)).o (T.i_all "Unlike" (by decide +kernel)) T.t_init T.m_Unlike (ok_MeterError___init__ T) T.d_MeterError___init__.b (hr.mono (by decide)) (pa_cons (pv 0) pa_nil)) (pa_cons (pe_mkE (T.e_all "BadOffers" (by decide +kernel)).o (T.i_all "BadOffers" (by decide +kernel)) T.t_init T.m_BadOffers (ok_MeterError___init__ T) T.d_MeterError___init__.b (hr.mono (by decide)) (pa_cons (pv 0) pa_nil)) (pa_cons (pe_mkE (T.e_all "BadHopes" (by decide +kernel)).o (T.i_all "BadHopes" (by decide +kernel)) T.t_init T.m_BadHopes (ok_MeterError___init__ T) T.d_MeterError___init__.b (hr.mono (by decide)) (pa_cons (pv 0) pa_nil)) pa_nil))))))) pa_nil)))
      (pss_cons (ps_expr (pe_bm PySem.F.plainAttrs_list PySem.F.slot_list_extend PySem.F.type_list_extend mt_extend (pv 1) (pa_cons (pe_lst (pa_cons (pe_mkE (T.e_all "NotNow" (by decide +kernel)).o (T.i_all "NotNow" (by decide +kernel)) T.t_init T.m_NotNow (ok_MeterError___init__ T) T.d_MeterError___init__.b (hr.mono (by decide)) (pa_cons (pv 0) pa_nil)) (pa_cons (pe_mkE (T.e_all "Hunting" (by decide +kernel)).o (T.i_all "Hunting" (by decide +kernel)) T.t_init T.m_Hunting (ok_MeterError___init__ T) T.d_MeterError___init__.b (hr.mono (by decide)) (pa_cons (pv 0) pa_nil)) (pa_cons (pe_mkE (T.e_all "BadSource" (by decide +kernel)).o (T.i_all "BadSource" (by decide +kernel)) T.t_init T.m_BadSource (ok_MeterError___init__ T) T.d_MeterError___init__.b (hr.mono (by decide)) (pa_cons (pv 0) pa_nil)) (pa_cons (pe_mkE (T.e_all "NothingToUndo" (by decide +kernel)).o (T.i_all "NothingToUndo" (by decide +kernel)) T.t_init T.m_NothingToUndo (ok_MeterError___init__ T) T.d_MeterError___init__.b (hr.mono (by decide)) (pa_cons (pv 0) pa_nil)) (pa_cons (pe_mkE (T.e_all "NothingToRedo" (by decide +kernel)).o (T.i_all "NothingToRedo" (by decide +kernel)) T.t_init T.m_NothingToRedo (ok_MeterError___init__ T) T.d_MeterError___init__.b (hr.mono (by decide)) (pa_cons (pv 0) pa_nil)) pa_nil)))))) pa_nil)))
      (pss_one (ps_ret (pe_op op_cat (pv 1) (pe_lst (pa_cons (pe_mkE (T.e_all "NoTrial" (by decide +kernel)).o (T.i_all "NoTrial" (by decide +kernel)) T.t_init T.m_NoTrial (ok_MeterError___init__ T) T.d_MeterError___init__.b (hr.mono (by decide)) (pa_cons (pv 0) pa_nil)) (pa_cons (pe_mkE (T.e_all "BadJournal" (by decide +kernel)).o (T.i_all "BadJournal" (by decide +kernel)) T.t_init T.m_BadJournal (ok_MeterError___init__ T) T.d_MeterError___init__.b (hr.mono (by decide)) (pa_cons (pv 0) pa_nil)) (pa_cons (pe_mkE (T.e_all "BadLine" (by decide +kernel)).o (T.i_all "BadLine" (by decide +kernel)) T.t_init T.m_BadLine (ok_MeterError___init__ T) T.d_MeterError___init__.b (hr.mono (by decide)) (pa_cons (pv 0) pa_nil)) pa_nil))))))))))), ?_⟩
    refine My.i_go (σ' := [some _, none]) rfl ?_
    have T0 : Same H H := .refl _
    have R0 : Ers K H v [] [] := .nil
    have hEO := T.e_all
    repeat walk_at "h"
    refine i_mkE (T.e_all "BadRatio" (by decide +kernel)) fun a1 H1 S1 f1 A1 => ?_
    have R1 : Ers K H1 v [a1] ["BadRatio"] := (R0.same S1).add A1
    have T1 := T0.trans S1
    clear A1 R0 S1 T0
    repeat walk_at "h"
    refine i_mkE (T.e_all "Short" (by decide +kernel)) fun a2 H2 S2 f2 A2 => ?_
    have R2 : Ers K H2 v [a1, a2] ["BadRatio", "Short"] := (R1.same S2).add A2
    have T2 := T1.trans S2
    clear A2 R1 S2 T1
    repeat walk_at "h"
    refine i_mkE (T.e_all "BadMany" (by decide +kernel)) fun a3 H3 S3 f3 A3 => ?_
    have R3 : Ers K H3 v [a1, a2, a3] ["BadRatio", "Short", "BadMany"] := (R2.same S3).add A3
    have T3 := T2.trans S3
    clear A3 R2 S3 T2
    repeat walk_at "h"
    refine i_mkE (T.e_all "BadBench" (by decide +kernel)) fun a4 H4 S4 f4 A4 => ?_
    have R4 : Ers K H4 v [a1, a2, a3, a4] ["BadRatio", "Short", "BadMany", "BadBench"] := (R3.same S4).add A4
    have T4 := T3.trans S4
    clear A4 R3 S4 T3
    repeat walk_at "h"
    refine i_mkE (T.e_all "NoMeter" (by decide +kernel)) fun a5 H5 S5 f5 A5 => ?_
    have R5 : Ers K H5 v [a1, a2, a3, a4, a5] ["BadRatio", "Short", "BadMany", "BadBench", "NoMeter"] := (R4.same S5).add A5
    have T5 := T4.trans S5
    clear A5 R4 S5 T4
    repeat walk_at "h"
    refine i_mkE (T.e_all "NoLoad" (by decide +kernel)) fun a6 H6 S6 f6 A6 => ?_
    have R6 : Ers K H6 v [a1, a2, a3, a4, a5, a6] ["BadRatio", "Short", "BadMany", "BadBench", "NoMeter", "NoLoad"] := (R5.same S6).add A6
    have T6 := T5.trans S6
    clear A6 R5 S6 T5
    repeat walk_at "h"
    rename_i l G0 S0 l0 hl
    have lN : H l = none := T6.free l0
    have R6 := R6.same S0
    have T6 := T6.trans S0
    clear S0
    refine i_mkE (T.e_all "LastMeter" (by decide +kernel)) fun a7 H7 S7 f7 A7 => ?_
    have R7 : Ers K H7 v [a1, a2, a3, a4, a5, a6, a7] ["BadRatio", "Short", "BadMany", "BadBench", "NoMeter", "NoLoad", "LastMeter"] := (R6.same S7).add A7
    have T7 := T6.trans S7
    have hl := S7 _ _ hl
    clear A7 R6 S7 T6
    repeat walk_at "h"
    refine i_mkE (T.e_all "BadSpread" (by decide +kernel)) fun a8 H8 S8 f8 A8 => ?_
    have R8 : Ers K H8 v [a1, a2, a3, a4, a5, a6, a7, a8] ["BadRatio", "Short", "BadMany", "BadBench", "NoMeter", "NoLoad", "LastMeter", "BadSpread"] := (R7.same S8).add A8
    have T8 := T7.trans S8
    have hl := S8 _ _ hl
    clear A8 R7 S8 T7
    repeat walk_at "h"
    refine i_mkE (T.e_all "BadSetting" (by decide +kernel)) fun a9 H9 S9 f9 A9 => ?_
    have R9 : Ers K H9 v [a1, a2, a3, a4, a5, a6, a7, a8, a9] ["BadRatio", "Short", "BadMany", "BadBench", "NoMeter", "NoLoad", "LastMeter", "BadSpread", "BadSetting"] := (R8.same S9).add A9
    have T9 := T8.trans S9
    have hl := S9 _ _ hl
    clear A9 R8 S9 T8
    repeat walk_at "h"
    refine i_mkE (T.e_all "BadStep" (by decide +kernel)) fun a10 H10 S10 f10 A10 => ?_
    have R10 : Ers K H10 v [a1, a2, a3, a4, a5, a6, a7, a8, a9, a10] ["BadRatio", "Short", "BadMany", "BadBench", "NoMeter", "NoLoad", "LastMeter", "BadSpread", "BadSetting", "BadStep"] := (R9.same S10).add A10
    have T10 := T9.trans S10
    have hl := S10 _ _ hl
    clear A10 R9 S10 T9
    repeat walk_at "h"
    refine i_mkE (T.e_all "BadSteps" (by decide +kernel)) fun a11 H11 S11 f11 A11 => ?_
    have R11 : Ers K H11 v [a1, a2, a3, a4, a5, a6, a7, a8, a9, a10, a11] ["BadRatio", "Short", "BadMany", "BadBench", "NoMeter", "NoLoad", "LastMeter", "BadSpread", "BadSetting", "BadStep", "BadSteps"] := (R10.same S11).add A11
    have T11 := T10.trans S11
    have hl := S11 _ _ hl
    clear A11 R10 S11 T10
    repeat walk_at "h"
    rename_i b G S b0 hb
    have hl := S _ _ hl
    refine i_ext hl hb (Nat.le_of_ble_eq_true rfl) fun G2 B2 hl2 => ?_
    have R11 : Ers K G2 v [a1, a2, a3, a4, a5, a6, a7, a8, a9, a10, a11] ["BadRatio", "Short", "BadMany", "BadBench", "NoMeter", "NoLoad", "LastMeter", "BadSpread", "BadSetting", "BadStep", "BadSteps"] := (R11.same S).but hl B2
    have T11 : Same H G2 := fun c o z => B2 c o (ne_of_none z lN) (S _ _ (T11 _ _ z))
    clear hb B2 S hl
    have hl := hl2
    clear hl2
    repeat walk_at "h"
    refine i_mkE (T.e_all "TooMany" (by decide +kernel)) fun a12 H12 S12 f12 A12 => ?_
    have R12 : Ers K H12 v [a1, a2, a3, a4, a5, a6, a7, a8, a9, a10, a11, a12] ["BadRatio", "Short", "BadMany", "BadBench", "NoMeter", "NoLoad", "LastMeter", "BadSpread", "BadSetting", "BadStep", "BadSteps", "TooMany"] := (R11.same S12).add A12
    have T12 := T11.trans S12
    have hl := S12 _ _ hl
    clear A12 R11 S12 T11
    repeat walk_at "h"
    refine i_mkE (T.e_all "BadLog" (by decide +kernel)) fun a13 H13 S13 f13 A13 => ?_
    have R13 : Ers K H13 v [a1, a2, a3, a4, a5, a6, a7, a8, a9, a10, a11, a12, a13] ["BadRatio", "Short", "BadMany", "BadBench", "NoMeter", "NoLoad", "LastMeter", "BadSpread", "BadSetting", "BadStep", "BadSteps", "TooMany", "BadLog"] := (R12.same S13).add A13
    have T13 := T12.trans S13
    have hl := S13 _ _ hl
    clear A13 R12 S13 T12
    repeat walk_at "h"
    refine i_mkE (T.e_all "NoFit" (by decide +kernel)) fun a14 H14 S14 f14 A14 => ?_
    have R14 : Ers K H14 v [a1, a2, a3, a4, a5, a6, a7, a8, a9, a10, a11, a12, a13, a14] ["BadRatio", "Short", "BadMany", "BadBench", "NoMeter", "NoLoad", "LastMeter", "BadSpread", "BadSetting", "BadStep", "BadSteps", "TooMany", "BadLog", "NoFit"] := (R13.same S14).add A14
    have T14 := T13.trans S14
    have hl := S14 _ _ hl
    clear A14 R13 S14 T13
    repeat walk_at "h"
    refine i_mkE (T.e_all "Unlike" (by decide +kernel)) fun a15 H15 S15 f15 A15 => ?_
    have R15 : Ers K H15 v [a1, a2, a3, a4, a5, a6, a7, a8, a9, a10, a11, a12, a13, a14, a15] ["BadRatio", "Short", "BadMany", "BadBench", "NoMeter", "NoLoad", "LastMeter", "BadSpread", "BadSetting", "BadStep", "BadSteps", "TooMany", "BadLog", "NoFit", "Unlike"] := (R14.same S15).add A15
    have T15 := T14.trans S15
    have hl := S15 _ _ hl
    clear A15 R14 S15 T14
    repeat walk_at "h"
    refine i_mkE (T.e_all "BadOffers" (by decide +kernel)) fun a16 H16 S16 f16 A16 => ?_
    have R16 : Ers K H16 v [a1, a2, a3, a4, a5, a6, a7, a8, a9, a10, a11, a12, a13, a14, a15, a16] ["BadRatio", "Short", "BadMany", "BadBench", "NoMeter", "NoLoad", "LastMeter", "BadSpread", "BadSetting", "BadStep", "BadSteps", "TooMany", "BadLog", "NoFit", "Unlike", "BadOffers"] := (R15.same S16).add A16
    have T16 := T15.trans S16
    have hl := S16 _ _ hl
    clear A16 R15 S16 T15
    repeat walk_at "h"
    refine i_mkE (T.e_all "BadHopes" (by decide +kernel)) fun a17 H17 S17 f17 A17 => ?_
    have R17 : Ers K H17 v [a1, a2, a3, a4, a5, a6, a7, a8, a9, a10, a11, a12, a13, a14, a15, a16, a17] ["BadRatio", "Short", "BadMany", "BadBench", "NoMeter", "NoLoad", "LastMeter", "BadSpread", "BadSetting", "BadStep", "BadSteps", "TooMany", "BadLog", "NoFit", "Unlike", "BadOffers", "BadHopes"] := (R16.same S17).add A17
    have T17 := T16.trans S17
    have hl := S17 _ _ hl
    clear A17 R16 S17 T16
    repeat walk_at "h"
    rename_i b G S b0 hb
    have hl := S _ _ hl
    refine i_ext hl hb (Nat.le_of_ble_eq_true rfl) fun G2 B2 hl2 => ?_
    have R17 : Ers K G2 v [a1, a2, a3, a4, a5, a6, a7, a8, a9, a10, a11, a12, a13, a14, a15, a16, a17] ["BadRatio", "Short", "BadMany", "BadBench", "NoMeter", "NoLoad", "LastMeter", "BadSpread", "BadSetting", "BadStep", "BadSteps", "TooMany", "BadLog", "NoFit", "Unlike", "BadOffers", "BadHopes"] := (R17.same S).but hl B2
    have T17 : Same H G2 := fun c o z => B2 c o (ne_of_none z lN) (S _ _ (T17 _ _ z))
    clear hb B2 S hl
    have hl := hl2
    clear hl2
    repeat walk_at "h"
    refine i_mkE (T.e_all "NotNow" (by decide +kernel)) fun a18 H18 S18 f18 A18 => ?_
    have R18 : Ers K H18 v [a1, a2, a3, a4, a5, a6, a7, a8, a9, a10, a11, a12, a13, a14, a15, a16, a17, a18] ["BadRatio", "Short", "BadMany", "BadBench", "NoMeter", "NoLoad", "LastMeter", "BadSpread", "BadSetting", "BadStep", "BadSteps", "TooMany", "BadLog", "NoFit", "Unlike", "BadOffers", "BadHopes", "NotNow"] := (R17.same S18).add A18
    have T18 := T17.trans S18
    have hl := S18 _ _ hl
    clear A18 R17 S18 T17
    repeat walk_at "h"
    refine i_mkE (T.e_all "Hunting" (by decide +kernel)) fun a19 H19 S19 f19 A19 => ?_
    have R19 : Ers K H19 v [a1, a2, a3, a4, a5, a6, a7, a8, a9, a10, a11, a12, a13, a14, a15, a16, a17, a18, a19] ["BadRatio", "Short", "BadMany", "BadBench", "NoMeter", "NoLoad", "LastMeter", "BadSpread", "BadSetting", "BadStep", "BadSteps", "TooMany", "BadLog", "NoFit", "Unlike", "BadOffers", "BadHopes", "NotNow", "Hunting"] := (R18.same S19).add A19
    have T19 := T18.trans S19
    have hl := S19 _ _ hl
    clear A19 R18 S19 T18
    repeat walk_at "h"
    refine i_mkE (T.e_all "BadSource" (by decide +kernel)) fun a20 H20 S20 f20 A20 => ?_
    have R20 : Ers K H20 v [a1, a2, a3, a4, a5, a6, a7, a8, a9, a10, a11, a12, a13, a14, a15, a16, a17, a18, a19, a20] ["BadRatio", "Short", "BadMany", "BadBench", "NoMeter", "NoLoad", "LastMeter", "BadSpread", "BadSetting", "BadStep", "BadSteps", "TooMany", "BadLog", "NoFit", "Unlike", "BadOffers", "BadHopes", "NotNow", "Hunting", "BadSource"] := (R19.same S20).add A20
    have T20 := T19.trans S20
    have hl := S20 _ _ hl
    clear A20 R19 S20 T19
    repeat walk_at "h"
    refine i_mkE (T.e_all "NothingToUndo" (by decide +kernel)) fun a21 H21 S21 f21 A21 => ?_
    have R21 : Ers K H21 v [a1, a2, a3, a4, a5, a6, a7, a8, a9, a10, a11, a12, a13, a14, a15, a16, a17, a18, a19, a20, a21] ["BadRatio", "Short", "BadMany", "BadBench", "NoMeter", "NoLoad", "LastMeter", "BadSpread", "BadSetting", "BadStep", "BadSteps", "TooMany", "BadLog", "NoFit", "Unlike", "BadOffers", "BadHopes", "NotNow", "Hunting", "BadSource", "NothingToUndo"] := (R20.same S21).add A21
    have T21 := T20.trans S21
    have hl := S21 _ _ hl
    clear A21 R20 S21 T20
    repeat walk_at "h"
    refine i_mkE (T.e_all "NothingToRedo" (by decide +kernel)) fun a22 H22 S22 f22 A22 => ?_
    have R22 : Ers K H22 v [a1, a2, a3, a4, a5, a6, a7, a8, a9, a10, a11, a12, a13, a14, a15, a16, a17, a18, a19, a20, a21, a22] ["BadRatio", "Short", "BadMany", "BadBench", "NoMeter", "NoLoad", "LastMeter", "BadSpread", "BadSetting", "BadStep", "BadSteps", "TooMany", "BadLog", "NoFit", "Unlike", "BadOffers", "BadHopes", "NotNow", "Hunting", "BadSource", "NothingToUndo", "NothingToRedo"] := (R21.same S22).add A22
    have T22 := T21.trans S22
    have hl := S22 _ _ hl
    clear A22 R21 S22 T21
    repeat walk_at "h"
    rename_i b G S b0 hb
    have hl := S _ _ hl
    refine i_ext hl hb (Nat.le_of_ble_eq_true rfl) fun G2 B2 hl2 => ?_
    have R22 : Ers K G2 v [a1, a2, a3, a4, a5, a6, a7, a8, a9, a10, a11, a12, a13, a14, a15, a16, a17, a18, a19, a20, a21, a22] ["BadRatio", "Short", "BadMany", "BadBench", "NoMeter", "NoLoad", "LastMeter", "BadSpread", "BadSetting", "BadStep", "BadSteps", "TooMany", "BadLog", "NoFit", "Unlike", "BadOffers", "BadHopes", "NotNow", "Hunting", "BadSource", "NothingToUndo", "NothingToRedo"] := (R22.same S).but hl B2
    have T22 : Same H G2 := fun c o z => B2 c o (ne_of_none z lN) (S _ _ (T22 _ _ z))
    clear hb B2 S hl
    have hl := hl2
    clear hl2
    repeat walk_at "h"
    refine i_mkE (T.e_all "NoTrial" (by decide +kernel)) fun a23 H23 S23 f23 A23 => ?_
    have R23 : Ers K H23 v [a1, a2, a3, a4, a5, a6, a7, a8, a9, a10, a11, a12, a13, a14, a15, a16, a17, a18, a19, a20, a21, a22, a23] ["BadRatio", "Short", "BadMany", "BadBench", "NoMeter", "NoLoad", "LastMeter", "BadSpread", "BadSetting", "BadStep", "BadSteps", "TooMany", "BadLog", "NoFit", "Unlike", "BadOffers", "BadHopes", "NotNow", "Hunting", "BadSource", "NothingToUndo", "NothingToRedo", "NoTrial"] := (R22.same S23).add A23
    have T23 := T22.trans S23
    have hl := S23 _ _ hl
    clear A23 R22 S23 T22
    repeat walk_at "h"
    refine i_mkE (T.e_all "BadJournal" (by decide +kernel)) fun a24 H24 S24 f24 A24 => ?_
    have R24 : Ers K H24 v [a1, a2, a3, a4, a5, a6, a7, a8, a9, a10, a11, a12, a13, a14, a15, a16, a17, a18, a19, a20, a21, a22, a23, a24] ["BadRatio", "Short", "BadMany", "BadBench", "NoMeter", "NoLoad", "LastMeter", "BadSpread", "BadSetting", "BadStep", "BadSteps", "TooMany", "BadLog", "NoFit", "Unlike", "BadOffers", "BadHopes", "NotNow", "Hunting", "BadSource", "NothingToUndo", "NothingToRedo", "NoTrial", "BadJournal"] := (R23.same S24).add A24
    have T24 := T23.trans S24
    have hl := S24 _ _ hl
    clear A24 R23 S24 T23
    repeat walk_at "h"
    refine i_mkE (T.e_all "BadLine" (by decide +kernel)) fun a25 H25 S25 f25 A25 => ?_
    have R25 : Ers K H25 v [a1, a2, a3, a4, a5, a6, a7, a8, a9, a10, a11, a12, a13, a14, a15, a16, a17, a18, a19, a20, a21, a22, a23, a24, a25] ["BadRatio", "Short", "BadMany", "BadBench", "NoMeter", "NoLoad", "LastMeter", "BadSpread", "BadSetting", "BadStep", "BadSteps", "TooMany", "BadLog", "NoFit", "Unlike", "BadOffers", "BadHopes", "NotNow", "Hunting", "BadSource", "NothingToUndo", "NothingToRedo", "NoTrial", "BadJournal", "BadLine"] := (R24.same S25).add A25
    have T25 := T24.trans S25
    have hl := S25 _ _ hl
    clear A25 R24 S25 T24
    repeat walk_at "h"
    rename_i b G S b0 hb
    refine i_cat (S _ _ hl) hb (Nat.le_of_ble_eq_true rfl) fun t G2 S2 t0 ht => ?_
    repeat walk_at "h"
    exact k t G2 [a1, a2, a3, a4, a5, a6, a7, a8, a9, a10, a11, a12, a13, a14, a15, a16, a17, a18, a19, a20, a21, a22, a23, a24, a25] (T25.trans (S.trans S2)) (T25.free (S.free t0)) ht (R25.same (S.trans S2))
theorem ok__law_value_1 (T : Tx K mg) : FnAt P w K mg base CX0 4 (He.ga K "_law_value") ["_law_pot_here", "_law_deep"] (spVal 1 1) := by
  refine T.f__law_value.f.ok sc__law_value ?_ (fun cdv A outer s H vs Q E hr h => ?_)
  · walk_at "len"
  · obtain ⟨p, m, rfl, hP, hm, k⟩ := h
    refine ⟨_, (pss_cons (ps_set (i := 2) sc__law_value.nd rfl (.inl rfl) (pe_ifExp (pt_cmpR op_gt (pv 1) pe_int (nomark _)) (pe_fn T.f__law_take (ok__law_take T) (hr.mono (by decide)) (pa_cons (pv 0) (pa_cons pe_int pa_nil))) pe_int))
      (pss_cons (ps_if (pt_cmpR op_eq (pv 2) pe_int (nomark _)) (pss_one (ps_ret (pe_callTy cr_tupOf rfl T.b_tuple (by decide +kernel) (pa_cons (pe_lc (own := [("_law_lap", 3)]) rfl sc__law_value.nd (pi_range1 rfl T.b_range (pa_cons (pe_fn T.f__law_take (ok__law_take T) (hr.mono (by decide)) (pa_cons (pv 0) (pa_cons pe_int pa_nil))) pa_nil)) (blkOk_by (own := [("_law_lap", 3)]) (N := ["_law_pot_here", "_law_deep", "_law_way", "_law_lap"]) (sc := defScope s__law_value) (by decide +kernel)) (fun _ _ _ _ _ => (pg_name (i := 3) sc__law_value.nd rfl (.inl rfl))) (fun _ _ _ _ _ => pts_nil) (fun _ _ _ _ _ => (pe_fn T.f__law_value (ok__law_value_0 T) (hr.mono (by decide)) (pa_cons (pv 0) (pa_cons (pe_op op_sub (pv 1) pe_int) pa_nil))))) pa_nil)))) pss_nil)
      (pss_cons (ps_if (pt_cmpR op_eq (pv 2) pe_int (nomark _)) (pss_one (ps_ret (pe_lc (own := [("_law_lap", 3)]) rfl sc__law_value.nd (pi_range1 rfl T.b_range (pa_cons (pe_fn T.f__law_take (ok__law_take T) (hr.mono (by decide)) (pa_cons (pv 0) (pa_cons pe_int pa_nil))) pa_nil)) (blkOk_by (own := [("_law_lap", 3)]) (N := ["_law_pot_here", "_law_deep", "_law_way", "_law_lap"]) (sc := defScope s__law_value) (by decide +kernel)) (fun _ _ _ _ _ => (pg_name (i := 3) sc__law_value.nd rfl (.inl rfl))) (fun _ _ _ _ _ => pts_nil) (fun _ _ _ _ _ => (pe_fn T.f__law_value (ok__law_value_0 T) (hr.mono (by decide)) (pa_cons (pv 0) (pa_cons (pe_op op_sub (pv 1) pe_int) pa_nil))))))) pss_nil)
      (pss_cons (ps_if (pt_cmpR op_eq (pv 2) pe_int (nomark _)) (pss_one (ps_ret (pe_disp (pps_cons pe_str (pe_fn T.f__law_value (ok__law_value_0 T) (hr.mono (by decide)) (pa_cons (pv 0) (pa_cons (pe_op op_sub (pv 1) pe_int) pa_nil))) pps_nil) (by rfl) (by rfl) (fun z => by cases z) (by decide)))) pss_nil)
      (pss_one (ps_ret (pe_fn T.f__law_of (ok__law_of T) (hr.mono (by decide)) (pa_cons (pv 0) (pa_cons (pe_lst (pa_cons pe_non (pa_cons pe_bl (pa_cons pe_bl (pa_cons pe_int (pa_cons pe_int (pa_cons (pe_un un_neg pe_int) (pa_cons (pe_op op_powW pe_int pe_int) (pa_cons pe_str (pa_cons pe_str (pa_cons pe_str (pa_cons (pe_tup pa_nil) (pa_cons (pe_lst pa_nil) (pa_cons pe_dnewK (pa_cons (pe_tup (pa_cons pe_int (pa_cons pe_int pa_nil))) (pa_cons (pe_tup (pa_cons pe_str (pa_cons pe_str pa_nil))) pa_nil)))))))))))))))) pa_nil))))))))), ?_⟩
    refine My.i_go (σ' := [some _, some _, none, none]) rfl ?_
    have PN : H p ≠ none := by obtain ⟨_, _, _, z, _⟩ := id hP; rw [z]; exact fun q => by cases q
    have hc : cst 1 = 2 + 3 * cst 0 := rfl
    have h0 : (0 : Int) ≤ cst 0 := by decide
    repeat walk_at "h"
    refine ite_d (by decide) ?_
    repeat walk_at "h"
    refine ⟨_, _, _, rfl, hP, by omega, by omega, by omega, fun w H1 w0 w1 P1 B1 => ?_⟩
    have N1 : ∀ a, H1 a = none → H a = none := fun a z => B1.free (P1.ne z).symm z
    repeat walk_at "h"
    refine i_eqI ?_
    repeat walk_at "h"
    refine ite_d2 (fun c0 => ?_) (fun c0 => ?_)
    case refine_1 =>
      repeat walk_at "h"
      refine ⟨_, _, _, rfl, P1, by omega, by omega, by omega, fun j H2 j0 j1 P2 B2 => ?_⟩
      repeat walk_at "h"
      refine i_rngv (by omega) (by omega) ?_
      obtain ⟨jn, rfl⟩ : ∃ jn : Nat, j = (jn : Int) := ⟨j.toNat, by omega⟩
      have hjn : jn ≤ 3 := by omega
      have hb : ∀ i : Nat, i < jn → m + 2 + cst 0 * (i : Int) + cst 0 < 200000 := fun i hi => by
        have h1 : cst 0 * (i : Int) ≤ cst 0 * 2 := Int.mul_le_mul_of_nonneg_left (by omega) h0
        omega
      rw [show ((jn : Int)).toNat = jn from Int.toNat_natCast jn]
      have B12 := B1.trans B2
      refine lcq_range (n := jn) (fun D i H' acc => Pot H' p (m + 2 + cst 0 * i) ∧ But p H2 H' ∧ p ≠ D ∧ H2 D = none ∧ ∃ ds, Pw (Dv (fun a => H2 a = none ∧ a ≠ D) H' 1) acc ds) (fun D H' S h e => ⟨(P2.same S).mono (by omega), S.but, P2.ne h, h, [], .nil⟩) ?_ ?_
      · rintro D i H3 acc hi hlen hD ⟨P3, B3, hne, hD2, ds, pw⟩
        repeat walk_at "h"
        refine ⟨rfl, ?_⟩
        repeat walk_at "h"
        refine ⟨p, _, rfl, P3, hb i (by omega), fun v d H4 hv P4 B4 => ?_⟩
        refine turn_end (B4 _ _ hne.symm hD) hlen (by omega) fun H5 B5 e5 => ⟨(P4.butA hne B5).mono (by rw [Int.natCast_add, Int.mul_add]; show m + 2 + cst 0 * i + cst 0 ≤ m + 2 + (cst 0 * i + cst 0 * 1); omega), fun c o hc z => B5 c o (ne_of_none z hD2) (B4 c o hc (B3 c o hc z)), hne, hD2, ds ++ [d], ?_⟩
        refine Pw.snoc (pw.imp fun v d h => (h.but (p := p) (fun z => P2.ne z.1 rfl) B4).but (p := D) (fun z => z.2 rfl) B5) ?_
        have hv : Dv (fun a => H2 a = none ∧ a ≠ D) H4 1 v d := hv.imp (fun a z => ⟨B3.free (P3.ne z).symm z, fun q => by rw [q, hD] at z; cases z⟩) (fun _ _ _ z => z) _ _ _
        exact hv.but (p := D) (fun z => z.2 rfl) B5
      · rintro D H3 acc hlen hD ⟨P3, B3, hne, hD2, ds, pw⟩
        repeat walk_at "h"
        refine i_tupOfL (.of hD) fun t H4 S4 f4 e4 => ?_
        have hl := pw.len
        have hj : cst 0 * (jn : Int) ≤ cst 0 * 3 := Int.mul_le_mul_of_nonneg_left (by omega) h0
        refine k (.ref t) (.tuple ds) H4 (.inr ⟨t, rfl, N1 _ (B2.free (P2.ne (B3.free (P3.ne f4).symm f4)).symm (B3.free (P3.ne f4).symm f4)), .inr (.inl ⟨acc, ds, rfl, e4, ?_, by omega⟩)⟩) ((P3.same S4).mono (by rw [hc]; omega)) (fun c o hc z => S4 c o (B3 c o hc (B12 c o hc z)))
        exact pw.imp fun v d h => h.imp (fun a z => N1 _ (B2.free (P2.ne z.1).symm z.1)) (fun a o _ z => S4 a o z) _ _ _
    repeat walk_at "h"
    refine i_eqI ?_
    repeat walk_at "h"
    refine ite_d2 (fun c1 => ?_) (fun c1 => ?_)
    case refine_1 =>
      repeat walk_at "h"
      refine ⟨_, _, _, rfl, P1, by omega, by omega, by omega, fun j H2 j0 j1 P2 B2 => ?_⟩
      repeat walk_at "h"
      refine i_rngv (by omega) (by omega) ?_
      obtain ⟨jn, rfl⟩ : ∃ jn : Nat, j = (jn : Int) := ⟨j.toNat, by omega⟩
      have hjn : jn ≤ 3 := by omega
      have hb : ∀ i : Nat, i < jn → m + 2 + cst 0 * (i : Int) + cst 0 < 200000 := fun i hi => by
        have h1 : cst 0 * (i : Int) ≤ cst 0 * 2 := Int.mul_le_mul_of_nonneg_left (by omega) h0
        omega
      rw [show ((jn : Int)).toNat = jn from Int.toNat_natCast jn]
      have B12 := B1.trans B2
      refine lcq_range (n := jn) (fun D i H' acc => Pot H' p (m + 2 + cst 0 * i) ∧ But p H2 H' ∧ p ≠ D ∧ H2 D = none ∧ ∃ ds, Pw (Dv (fun a => H2 a = none ∧ a ≠ D) H' 1) acc ds) (fun D H' S h e => ⟨(P2.same S).mono (by omega), S.but, P2.ne h, h, [], .nil⟩) ?_ ?_
      · rintro D i H3 acc hi hlen hD ⟨P3, B3, hne, hD2, ds, pw⟩
        repeat walk_at "h"
        refine ⟨rfl, ?_⟩
        repeat walk_at "h"
        refine ⟨p, _, rfl, P3, hb i (by omega), fun v d H4 hv P4 B4 => ?_⟩
        refine turn_end (B4 _ _ hne.symm hD) hlen (by omega) fun H5 B5 e5 => ⟨(P4.butA hne B5).mono (by rw [Int.natCast_add, Int.mul_add]; show m + 2 + cst 0 * i + cst 0 ≤ m + 2 + (cst 0 * i + cst 0 * 1); omega), fun c o hc z => B5 c o (ne_of_none z hD2) (B4 c o hc (B3 c o hc z)), hne, hD2, ds ++ [d], ?_⟩
        refine Pw.snoc (pw.imp fun v d h => (h.but (p := p) (fun z => P2.ne z.1 rfl) B4).but (p := D) (fun z => z.2 rfl) B5) ?_
        have hv : Dv (fun a => H2 a = none ∧ a ≠ D) H4 1 v d := hv.imp (fun a z => ⟨B3.free (P3.ne z).symm z, fun q => by rw [q, hD] at z; cases z⟩) (fun _ _ _ z => z) _ _ _
        exact hv.but (p := D) (fun z => z.2 rfl) B5
      · rintro D H3 acc hlen hD ⟨P3, B3, hne, hD2, ds, pw⟩
        repeat walk_at "h"
        have hl := pw.len
        have hj : cst 0 * (jn : Int) ≤ cst 0 * 3 := Int.mul_le_mul_of_nonneg_left (by omega) h0
        refine k (.ref D) (.list ds) H3 (.inr ⟨D, rfl, N1 _ (B2.free (P2.ne hD2).symm hD2), .inl ⟨acc, ds, rfl, hD, ?_, by omega⟩⟩) (P3.mono (by rw [hc]; omega)) (fun c o hc z => B3 c o hc (B12 c o hc z))
        exact pw.imp fun v d h => h.imp (fun a z => N1 _ (B2.free (P2.ne z.1).symm z.1)) (fun a o _ z => z) _ _ _
    repeat walk_at "h"
    refine i_eqI ?_
    repeat walk_at "h"
    refine ite_d2 (fun c2 => ?_) (fun c2 => ?_)
    case refine_1 =>
      repeat walk_at "h"
      show tDisp _ _ _ _
      intro q hq
      show tPairs _ _ _ _
      have S2 : Same H1 (upd H1 q (.dK [])) := fun b u e => by rw [upd_ne (ne_of_none e hq)]; exact e
      have e2 : upd H1 q (.dK []) q = some (.dK []) := upd_same
      have P2 := P1.same S2
      have nq := P1.ne hq
      generalize upd H1 q (.dK []) = H2 at S2 e2 P2
      unfold tPairs
      repeat walk_at "h"
      refine ⟨p, _, rfl, P2, by omega, fun v d H4 hv P4 B4 => ?_⟩
      have e4 := B4 _ _ nq.symm e2
      refine ⟨e4, [(.inr "a", v)], rfl, by show 1 ≤ 15; decide, ?_⟩
      have hv : Dv (fun a => H a = none ∧ a ≠ q) H4 1 v d := hv.imp (fun a z => ⟨N1 _ (S2.free z), fun r => by rw [r, e2] at z; cases z⟩) (fun _ _ _ z => z) _ _ _
      have hB : ∀ b u, b ≠ q → H4 b = some u → upd H4 q (.dK [(.inr "a", v)]) b = some u := fun b u n e => by rw [upd_ne n]; exact e
      show Q (.ref q) (upd H4 q (.dK [(.inr "a", v)]))
      refine k (.ref q) (.dict [(.str "a", d)]) _ (.inr ⟨q, rfl, N1 _ hq, .inr (.inr (.inr ⟨"a", v, d, rfl, upd_same, hv.imp (fun a z => z.1) (fun a o z => hB a o z.2) _ _ _, by decide +kernel⟩))⟩) ((P4.butA nq But.upd).mono (by rw [hc]; omega)) (fun c o hc z => hB c o (ne_of_none (B1 c o hc z) hq) (B4 c o hc (S2 _ _ (B1 c o hc z))))
    have NN := N1
    have PP := P1
    repeat walk_at "h"
    refine i_dnew fun d3 H3 S3 f3 e3 => ?_
    repeat walk_at "h"
    rename_i t1 H11 S1 f1 e1 l2 H2 S2 f2 e2 t4 H4 S4 f4 e4 t5 H5 S5 f5 e5 l6 H6 S6 f6 e6
    have T5 := (((S1.trans S2).trans S3).trans S4).trans S5
    have PP6 := PP.same (T5.trans S6)
    have f1 := NN _ f1
    have f2 := NN _ (S1.free f2)
    have f3 := NN _ (S1.free (S2.free f3))
    have f4 := NN _ (S1.free (S2.free (S3.free f4)))
    have f5 := NN _ (S1.free (S2.free (S3.free (S4.free f5))))
    have nl : p ≠ l6 := (PP.same T5).ne f6
    refine ⟨p, l6, Leafs t1 l2 d3 t4 t5, _, rfl, PP6, by omega, nl.symm, .of e6, by show 0 < 15; decide, by show 15 < 1000000; decide, fun v H7 hv P7 B7 => ?_⟩
    have up : ∀ {a : Addr} {o : HO}, H a = none → H6 a = some o → H7 a = some o := fun {a o} n z => B7 a o (fun q => by rw [q] at n; exact PN n) z
    obtain ⟨d, hd⟩ := leaf_dv (F := fun a => H a = none) hv f1 f2 f3 f4 f5 (up f1 (S6 _ _ (S5 _ _ (S4 _ _ (S3 _ _ (S2 _ _ e1)))))) (up f2 (S6 _ _ (S5 _ _ (S4 _ _ (S3 _ _ e2))))) (up f3 (S6 _ _ (S5 _ _ (S4 _ _ e3)))) (up f4 (S6 _ _ (S5 _ _ e4))) (up f5 (S6 _ _ e5))
    exact k v d H7 ((hd.ups 1)) (P7.mono (by rw [hc]; omega)) (fun c o n z => B7 c o n (S6 _ _ (T5 _ _ (B1 c o n z))))
theorem ok__law_value_2 (T : Tx K mg) : FnAt P w K mg base CX0 5 (He.ga K "_law_value") ["_law_pot_here", "_law_deep"] (spVal 2 2) := by
  refine T.f__law_value.f.ok sc__law_value ?_ (fun cdv A outer s H vs Q E hr h => ?_)
  · walk_at "len"
  · obtain ⟨p, m, rfl, hP, hm, k⟩ := h
    refine ⟨_, (pss_cons (ps_set (i := 2) sc__law_value.nd rfl (.inl rfl) (pe_ifExp (pt_cmpR op_gt (pv 1) pe_int (nomark _)) (pe_fn T.f__law_take (ok__law_take T) (hr.mono (by decide)) (pa_cons (pv 0) (pa_cons pe_int pa_nil))) pe_int))
      (pss_cons (ps_if (pt_cmpR op_eq (pv 2) pe_int (nomark _)) (pss_one (ps_ret (pe_callTy cr_tupOf rfl T.b_tuple (by decide +kernel) (pa_cons (pe_lc (own := [("_law_lap", 3)]) rfl sc__law_value.nd (pi_range1 rfl T.b_range (pa_cons (pe_fn T.f__law_take (ok__law_take T) (hr.mono (by decide)) (pa_cons (pv 0) (pa_cons pe_int pa_nil))) pa_nil)) (blkOk_by (own := [("_law_lap", 3)]) (N := ["_law_pot_here", "_law_deep", "_law_way", "_law_lap"]) (sc := defScope s__law_value) (by decide +kernel)) (fun _ _ _ _ _ => (pg_name (i := 3) sc__law_value.nd rfl (.inl rfl))) (fun _ _ _ _ _ => pts_nil) (fun _ _ _ _ _ => (pe_fn T.f__law_value (ok__law_value_1 T) (hr.mono (by decide)) (pa_cons (pv 0) (pa_cons (pe_op op_sub (pv 1) pe_int) pa_nil))))) pa_nil)))) pss_nil)
      (pss_cons (ps_if (pt_cmpR op_eq (pv 2) pe_int (nomark _)) (pss_one (ps_ret (pe_lc (own := [("_law_lap", 3)]) rfl sc__law_value.nd (pi_range1 rfl T.b_range (pa_cons (pe_fn T.f__law_take (ok__law_take T) (hr.mono (by decide)) (pa_cons (pv 0) (pa_cons pe_int pa_nil))) pa_nil)) (blkOk_by (own := [("_law_lap", 3)]) (N := ["_law_pot_here", "_law_deep", "_law_way", "_law_lap"]) (sc := defScope s__law_value) (by decide +kernel)) (fun _ _ _ _ _ => (pg_name (i := 3) sc__law_value.nd rfl (.inl rfl))) (fun _ _ _ _ _ => pts_nil) (fun _ _ _ _ _ => (pe_fn T.f__law_value (ok__law_value_1 T) (hr.mono (by decide)) (pa_cons (pv 0) (pa_cons (pe_op op_sub (pv 1) pe_int) pa_nil))))))) pss_nil)
      (pss_cons (ps_if (pt_cmpR op_eq (pv 2) pe_int (nomark _)) (pss_one (ps_ret (pe_disp (pps_cons pe_str (pe_fn T.f__law_value (ok__law_value_1 T) (hr.mono (by decide)) (pa_cons (pv 0) (pa_cons (pe_op op_sub (pv 1) pe_int) pa_nil))) pps_nil) (by rfl) (by rfl) (fun z => by cases z) (by decide)))) pss_nil)
      (pss_one (ps_ret (pe_fn T.f__law_of (ok__law_of T) (hr.mono (by decide)) (pa_cons (pv 0) (pa_cons (pe_lst (pa_cons pe_non (pa_cons pe_bl (pa_cons pe_bl (pa_cons pe_int (pa_cons pe_int (pa_cons (pe_un un_neg pe_int) (pa_cons (pe_op op_powW pe_int pe_int) (pa_cons pe_str (pa_cons pe_str (pa_cons pe_str (pa_cons (pe_tup pa_nil) (pa_cons (pe_lst pa_nil) (pa_cons pe_dnewK (pa_cons (pe_tup (pa_cons pe_int (pa_cons pe_int pa_nil))) (pa_cons (pe_tup (pa_cons pe_str (pa_cons pe_str pa_nil))) pa_nil)))))))))))))))) pa_nil))))))))), ?_⟩
    refine My.i_go (σ' := [some _, some _, none, none]) rfl ?_
    have PN : H p ≠ none := by obtain ⟨_, _, _, z, _⟩ := id hP; rw [z]; exact fun q => by cases q
    have hc : cst 2 = 2 + 3 * cst 1 := rfl
    have h0 : (0 : Int) ≤ cst 1 := by decide
    repeat walk_at "h"
    refine ite_d (by decide) ?_
    repeat walk_at "h"
    refine ⟨_, _, _, rfl, hP, by omega, by omega, by omega, fun w H1 w0 w1 P1 B1 => ?_⟩
    have N1 : ∀ a, H1 a = none → H a = none := fun a z => B1.free (P1.ne z).symm z
    repeat walk_at "h"
    refine i_eqI ?_
    repeat walk_at "h"
    refine ite_d2 (fun c0 => ?_) (fun c0 => ?_)
    case refine_1 =>
      repeat walk_at "h"
      refine ⟨_, _, _, rfl, P1, by omega, by omega, by omega, fun j H2 j0 j1 P2 B2 => ?_⟩
      repeat walk_at "h"
      refine i_rngv (by omega) (by omega) ?_
      obtain ⟨jn, rfl⟩ : ∃ jn : Nat, j = (jn : Int) := ⟨j.toNat, by omega⟩
      have hjn : jn ≤ 3 := by omega
      have hb : ∀ i : Nat, i < jn → m + 2 + cst 1 * (i : Int) + cst 1 < 200000 := fun i hi => by
        have h1 : cst 1 * (i : Int) ≤ cst 1 * 2 := Int.mul_le_mul_of_nonneg_left (by omega) h0
        omega
      rw [show ((jn : Int)).toNat = jn from Int.toNat_natCast jn]
      have B12 := B1.trans B2
      refine lcq_range (n := jn) (fun D i H' acc => Pot H' p (m + 2 + cst 1 * i) ∧ But p H2 H' ∧ p ≠ D ∧ H2 D = none ∧ ∃ ds, Pw (Dv (fun a => H2 a = none ∧ a ≠ D) H' 2) acc ds) (fun D H' S h e => ⟨(P2.same S).mono (by omega), S.but, P2.ne h, h, [], .nil⟩) ?_ ?_
      · rintro D i H3 acc hi hlen hD ⟨P3, B3, hne, hD2, ds, pw⟩
        repeat walk_at "h"
        refine ⟨rfl, ?_⟩
        repeat walk_at "h"
        refine ⟨p, _, rfl, P3, hb i (by omega), fun v d H4 hv P4 B4 => ?_⟩
        refine turn_end (B4 _ _ hne.symm hD) hlen (by omega) fun H5 B5 e5 => ⟨(P4.butA hne B5).mono (by rw [Int.natCast_add, Int.mul_add]; show m + 2 + cst 1 * i + cst 1 ≤ m + 2 + (cst 1 * i + cst 1 * 1); omega), fun c o hc z => B5 c o (ne_of_none z hD2) (B4 c o hc (B3 c o hc z)), hne, hD2, ds ++ [d], ?_⟩
        refine Pw.snoc (pw.imp fun v d h => (h.but (p := p) (fun z => P2.ne z.1 rfl) B4).but (p := D) (fun z => z.2 rfl) B5) ?_
        have hv : Dv (fun a => H2 a = none ∧ a ≠ D) H4 2 v d := hv.imp (fun a z => ⟨B3.free (P3.ne z).symm z, fun q => by rw [q, hD] at z; cases z⟩) (fun _ _ _ z => z) _ _ _
        exact hv.but (p := D) (fun z => z.2 rfl) B5
      · rintro D H3 acc hlen hD ⟨P3, B3, hne, hD2, ds, pw⟩
        repeat walk_at "h"
        refine i_tupOfL (.of hD) fun t H4 S4 f4 e4 => ?_
        have hl := pw.len
        have hj : cst 1 * (jn : Int) ≤ cst 1 * 3 := Int.mul_le_mul_of_nonneg_left (by omega) h0
        refine k (.ref t) (.tuple ds) H4 (.inr ⟨t, rfl, N1 _ (B2.free (P2.ne (B3.free (P3.ne f4).symm f4)).symm (B3.free (P3.ne f4).symm f4)), .inr (.inl ⟨acc, ds, rfl, e4, ?_, by omega⟩)⟩) ((P3.same S4).mono (by rw [hc]; omega)) (fun c o hc z => S4 c o (B3 c o hc (B12 c o hc z)))
        exact pw.imp fun v d h => h.imp (fun a z => N1 _ (B2.free (P2.ne z.1).symm z.1)) (fun a o _ z => S4 a o z) _ _ _
    repeat walk_at "h"
    refine i_eqI ?_
    repeat walk_at "h"
    refine ite_d2 (fun c1 => ?_) (fun c1 => ?_)
    case refine_1 =>
      repeat walk_at "h"
      refine ⟨_, _, _, rfl, P1, by omega, by omega, by omega, fun j H2 j0 j1 P2 B2 => ?_⟩
      repeat walk_at "h"
      refine i_rngv (by omega) (by omega) ?_
      obtain ⟨jn, rfl⟩ : ∃ jn : Nat, j = (jn : Int) := ⟨j.toNat, by omega⟩
      have hjn : jn ≤ 3 := by omega
      have hb : ∀ i : Nat, i < jn → m + 2 + cst 1 * (i : Int) + cst 1 < 200000 := fun i hi => by
        have h1 : cst 1 * (i : Int) ≤ cst 1 * 2 := Int.mul_le_mul_of_nonneg_left (by omega) h0
        omega
      rw [show ((jn : Int)).toNat = jn from Int.toNat_natCast jn]
      have B12 := B1.trans B2
      refine lcq_range (n := jn) (fun D i H' acc => Pot H' p (m + 2 + cst 1 * i) ∧ But p H2 H' ∧ p ≠ D ∧ H2 D = none ∧ ∃ ds, Pw (Dv (fun a => H2 a = none ∧ a ≠ D) H' 2) acc ds) (fun D H' S h e => ⟨(P2.same S).mono (by omega), S.but, P2.ne h, h, [], .nil⟩) ?_ ?_
      · rintro D i H3 acc hi hlen hD ⟨P3, B3, hne, hD2, ds, pw⟩
        repeat walk_at "h"
        refine ⟨rfl, ?_⟩
        repeat walk_at "h"
        refine ⟨p, _, rfl, P3, hb i (by omega), fun v d H4 hv P4 B4 => ?_⟩
        refine turn_end (B4 _ _ hne.symm hD) hlen (by omega) fun H5 B5 e5 => ⟨(P4.butA hne B5).mono (by rw [Int.natCast_add, Int.mul_add]; show m + 2 + cst 1 * i + cst 1 ≤ m + 2 + (cst 1 * i + cst 1 * 1); omega), fun c o hc z => B5 c o (ne_of_none z hD2) (B4 c o hc (B3 c o hc z)), hne, hD2, ds ++ [d], ?_⟩
        refine Pw.snoc (pw.imp fun v d h => (h.but (p := p) (fun z => P2.ne z.1 rfl) B4).but (p := D) (fun z => z.2 rfl) B5) ?_
        have hv : Dv (fun a => H2 a = none ∧ a ≠ D) H4 2 v d := hv.imp (fun a z => ⟨B3.free (P3.ne z).symm z, fun q => by rw [q, hD] at z; cases z⟩) (fun _ _ _ z => z) _ _ _
        exact hv.but (p := D) (fun z => z.2 rfl) B5
      · rintro D H3 acc hlen hD ⟨P3, B3, hne, hD2, ds, pw⟩
        repeat walk_at "h"
        have hl := pw.len
        have hj : cst 1 * (jn : Int) ≤ cst 1 * 3 := Int.mul_le_mul_of_nonneg_left (by omega) h0
        refine k (.ref D) (.list ds) H3 (.inr ⟨D, rfl, N1 _ (B2.free (P2.ne hD2).symm hD2), .inl ⟨acc, ds, rfl, hD, ?_, by omega⟩⟩) (P3.mono (by rw [hc]; omega)) (fun c o hc z => B3 c o hc (B12 c o hc z))
        exact pw.imp fun v d h => h.imp (fun a z => N1 _ (B2.free (P2.ne z.1).symm z.1)) (fun a o _ z => z) _ _ _
    repeat walk_at "h"
    refine i_eqI ?_
    repeat walk_at "h"
    refine ite_d2 (fun c2 => ?_) (fun c2 => ?_)
    case refine_1 =>
      repeat walk_at "h"
      show tDisp _ _ _ _
      intro q hq
      show tPairs _ _ _ _
      have S2 : Same H1 (upd H1 q (.dK [])) := fun b u e => by rw [upd_ne (ne_of_none e hq)]; exact e
      have e2 : upd H1 q (.dK []) q = some (.dK []) := upd_same
      have P2 := P1.same S2
      have nq := P1.ne hq
      generalize upd H1 q (.dK []) = H2 at S2 e2 P2
      unfold tPairs
      repeat walk_at "h"
      refine ⟨p, _, rfl, P2, by omega, fun v d H4 hv P4 B4 => ?_⟩
      have e4 := B4 _ _ nq.symm e2
      refine ⟨e4, [(.inr "a", v)], rfl, by show 1 ≤ 15; decide, ?_⟩
      have hv : Dv (fun a => H a = none ∧ a ≠ q) H4 2 v d := hv.imp (fun a z => ⟨N1 _ (S2.free z), fun r => by rw [r, e2] at z; cases z⟩) (fun _ _ _ z => z) _ _ _
      have hB : ∀ b u, b ≠ q → H4 b = some u → upd H4 q (.dK [(.inr "a", v)]) b = some u := fun b u n e => by rw [upd_ne n]; exact e
      show Q (.ref q) (upd H4 q (.dK [(.inr "a", v)]))
      refine k (.ref q) (.dict [(.str "a", d)]) _ (.inr ⟨q, rfl, N1 _ hq, .inr (.inr (.inr ⟨"a", v, d, rfl, upd_same, hv.imp (fun a z => z.1) (fun a o z => hB a o z.2) _ _ _, by decide +kernel⟩))⟩) ((P4.butA nq But.upd).mono (by rw [hc]; omega)) (fun c o hc z => hB c o (ne_of_none (B1 c o hc z) hq) (B4 c o hc (S2 _ _ (B1 c o hc z))))
    have NN := N1
    have PP := P1
    repeat walk_at "h"
    refine i_dnew fun d3 H3 S3 f3 e3 => ?_
    repeat walk_at "h"
    rename_i t1 H11 S1 f1 e1 l2 H2 S2 f2 e2 t4 H4 S4 f4 e4 t5 H5 S5 f5 e5 l6 H6 S6 f6 e6
    have T5 := (((S1.trans S2).trans S3).trans S4).trans S5
    have PP6 := PP.same (T5.trans S6)
    have f1 := NN _ f1
    have f2 := NN _ (S1.free f2)
    have f3 := NN _ (S1.free (S2.free f3))
    have f4 := NN _ (S1.free (S2.free (S3.free f4)))
    have f5 := NN _ (S1.free (S2.free (S3.free (S4.free f5))))
    have nl : p ≠ l6 := (PP.same T5).ne f6
    refine ⟨p, l6, Leafs t1 l2 d3 t4 t5, _, rfl, PP6, by omega, nl.symm, .of e6, by show 0 < 15; decide, by show 15 < 1000000; decide, fun v H7 hv P7 B7 => ?_⟩
    have up : ∀ {a : Addr} {o : HO}, H a = none → H6 a = some o → H7 a = some o := fun {a o} n z => B7 a o (fun q => by rw [q] at n; exact PN n) z
    obtain ⟨d, hd⟩ := leaf_dv (F := fun a => H a = none) hv f1 f2 f3 f4 f5 (up f1 (S6 _ _ (S5 _ _ (S4 _ _ (S3 _ _ (S2 _ _ e1)))))) (up f2 (S6 _ _ (S5 _ _ (S4 _ _ (S3 _ _ e2))))) (up f3 (S6 _ _ (S5 _ _ (S4 _ _ e3)))) (up f4 (S6 _ _ (S5 _ _ e4))) (up f5 (S6 _ _ e5))
    exact k v d H7 ((hd.ups 2)) (P7.mono (by rw [hc]; omega)) (fun c o n z => B7 c o n (S6 _ _ (T5 _ _ (B1 c o n z))))
theorem ok__law_value_3 (T : Tx K mg) : FnAt P w K mg base CX0 6 (He.ga K "_law_value") ["_law_pot_here", "_law_deep"] (spVal 3 3) := by
  refine T.f__law_value.f.ok sc__law_value ?_ (fun cdv A outer s H vs Q E hr h => ?_)
  · walk_at "len"
  · obtain ⟨p, m, rfl, hP, hm, k⟩ := h
    refine ⟨_, (pss_cons (ps_set (i := 2) sc__law_value.nd rfl (.inl rfl) (pe_ifExp (pt_cmpR op_gt (pv 1) pe_int (nomark _)) (pe_fn T.f__law_take (ok__law_take T) (hr.mono (by decide)) (pa_cons (pv 0) (pa_cons pe_int pa_nil))) pe_int))
      (pss_cons (ps_if (pt_cmpR op_eq (pv 2) pe_int (nomark _)) (pss_one (ps_ret (pe_callTy cr_tupOf rfl T.b_tuple (by decide +kernel) (pa_cons (pe_lc (own := [("_law_lap", 3)]) rfl sc__law_value.nd (pi_range1 rfl T.b_range (pa_cons (pe_fn T.f__law_take (ok__law_take T) (hr.mono (by decide)) (pa_cons (pv 0) (pa_cons pe_int pa_nil))) pa_nil)) (blkOk_by (own := [("_law_lap", 3)]) (N := ["_law_pot_here", "_law_deep", "_law_way", "_law_lap"]) (sc := defScope s__law_value) (by decide +kernel)) (fun _ _ _ _ _ => (pg_name (i := 3) sc__law_value.nd rfl (.inl rfl))) (fun _ _ _ _ _ => pts_nil) (fun _ _ _ _ _ => (pe_fn T.f__law_value (ok__law_value_2 T) (hr.mono (by decide)) (pa_cons (pv 0) (pa_cons (pe_op op_sub (pv 1) pe_int) pa_nil))))) pa_nil)))) pss_nil)
      (pss_cons (ps_if (pt_cmpR op_eq (pv 2) pe_int (nomark _)) (pss_one (ps_ret (pe_lc (own := [("_law_lap", 3)]) rfl sc__law_value.nd (pi_range1 rfl T.b_range (pa_cons (pe_fn T.f__law_take (ok__law_take T) (hr.mono (by decide)) (pa_cons (pv 0) (pa_cons pe_int pa_nil))) pa_nil)) (blkOk_by (own := [("_law_lap", 3)]) (N := ["_law_pot_here", "_law_deep", "_law_way", "_law_lap"]) (sc := defScope s__law_value) (by decide +kernel)) (fun _ _ _ _ _ => (pg_name (i := 3) sc__law_value.nd rfl (.inl rfl))) (fun _ _ _ _ _ => pts_nil) (fun _ _ _ _ _ => (pe_fn T.f__law_value (ok__law_value_2 T) (hr.mono (by decide)) (pa_cons (pv 0) (pa_cons (pe_op op_sub (pv 1) pe_int) pa_nil))))))) pss_nil)
      (pss_cons (ps_if (pt_cmpR op_eq (pv 2) pe_int (nomark _)) (pss_one (ps_ret (pe_disp (pps_cons pe_str (pe_fn T.f__law_value (ok__law_value_2 T) (hr.mono (by decide)) (pa_cons (pv 0) (pa_cons (pe_op op_sub (pv 1) pe_int) pa_nil))) pps_nil) (by rfl) (by rfl) (fun z => by cases z) (by decide)))) pss_nil)
      (pss_one (ps_ret (pe_fn T.f__law_of (ok__law_of T) (hr.mono (by decide)) (pa_cons (pv 0) (pa_cons (pe_lst (pa_cons pe_non (pa_cons pe_bl (pa_cons pe_bl (pa_cons pe_int (pa_cons pe_int (pa_cons (pe_un un_neg pe_int) (pa_cons (pe_op op_powW pe_int pe_int) (pa_cons pe_str (pa_cons pe_str (pa_cons pe_str (pa_cons (pe_tup pa_nil) (pa_cons (pe_lst pa_nil) (pa_cons pe_dnewK (pa_cons (pe_tup (pa_cons pe_int (pa_cons pe_int pa_nil))) (pa_cons (pe_tup (pa_cons pe_str (pa_cons pe_str pa_nil))) pa_nil)))))))))))))))) pa_nil))))))))), ?_⟩
    refine My.i_go (σ' := [some _, some _, none, none]) rfl ?_
    have PN : H p ≠ none := by obtain ⟨_, _, _, z, _⟩ := id hP; rw [z]; exact fun q => by cases q
    have hc : cst 3 = 2 + 3 * cst 2 := rfl
    have h0 : (0 : Int) ≤ cst 2 := by decide
    repeat walk_at "h"
    refine ite_d (by decide) ?_
    repeat walk_at "h"
    refine ⟨_, _, _, rfl, hP, by omega, by omega, by omega, fun w H1 w0 w1 P1 B1 => ?_⟩
    have N1 : ∀ a, H1 a = none → H a = none := fun a z => B1.free (P1.ne z).symm z
    repeat walk_at "h"
    refine i_eqI ?_
    repeat walk_at "h"
    refine ite_d2 (fun c0 => ?_) (fun c0 => ?_)
    case refine_1 =>
      repeat walk_at "h"
      refine ⟨_, _, _, rfl, P1, by omega, by omega, by omega, fun j H2 j0 j1 P2 B2 => ?_⟩
      repeat walk_at "h"
      refine i_rngv (by omega) (by omega) ?_
      obtain ⟨jn, rfl⟩ : ∃ jn : Nat, j = (jn : Int) := ⟨j.toNat, by omega⟩
      have hjn : jn ≤ 3 := by omega
      have hb : ∀ i : Nat, i < jn → m + 2 + cst 2 * (i : Int) + cst 2 < 200000 := fun i hi => by
        have h1 : cst 2 * (i : Int) ≤ cst 2 * 2 := Int.mul_le_mul_of_nonneg_left (by omega) h0
        omega
      rw [show ((jn : Int)).toNat = jn from Int.toNat_natCast jn]
      have B12 := B1.trans B2
      refine lcq_range (n := jn) (fun D i H' acc => Pot H' p (m + 2 + cst 2 * i) ∧ But p H2 H' ∧ p ≠ D ∧ H2 D = none ∧ ∃ ds, Pw (Dv (fun a => H2 a = none ∧ a ≠ D) H' 3) acc ds) (fun D H' S h e => ⟨(P2.same S).mono (by omega), S.but, P2.ne h, h, [], .nil⟩) ?_ ?_
      · rintro D i H3 acc hi hlen hD ⟨P3, B3, hne, hD2, ds, pw⟩
        repeat walk_at "h"
        refine ⟨rfl, ?_⟩
        repeat walk_at "h"
        refine ⟨p, _, rfl, P3, hb i (by omega), fun v d H4 hv P4 B4 => ?_⟩
        refine turn_end (B4 _ _ hne.symm hD) hlen (by omega) fun H5 B5 e5 => ⟨(P4.butA hne B5).mono (by rw [Int.natCast_add, Int.mul_add]; show m + 2 + cst 2 * i + cst 2 ≤ m + 2 + (cst 2 * i + cst 2 * 1); omega), fun c o hc z => B5 c o (ne_of_none z hD2) (B4 c o hc (B3 c o hc z)), hne, hD2, ds ++ [d], ?_⟩
        refine Pw.snoc (pw.imp fun v d h => (h.but (p := p) (fun z => P2.ne z.1 rfl) B4).but (p := D) (fun z => z.2 rfl) B5) ?_
        have hv : Dv (fun a => H2 a = none ∧ a ≠ D) H4 3 v d := hv.imp (fun a z => ⟨B3.free (P3.ne z).symm z, fun q => by rw [q, hD] at z; cases z⟩) (fun _ _ _ z => z) _ _ _
        exact hv.but (p := D) (fun z => z.2 rfl) B5
      · rintro D H3 acc hlen hD ⟨P3, B3, hne, hD2, ds, pw⟩
        repeat walk_at "h"
        refine i_tupOfL (.of hD) fun t H4 S4 f4 e4 => ?_
        have hl := pw.len
        have hj : cst 2 * (jn : Int) ≤ cst 2 * 3 := Int.mul_le_mul_of_nonneg_left (by omega) h0
        refine k (.ref t) (.tuple ds) H4 (.inr ⟨t, rfl, N1 _ (B2.free (P2.ne (B3.free (P3.ne f4).symm f4)).symm (B3.free (P3.ne f4).symm f4)), .inr (.inl ⟨acc, ds, rfl, e4, ?_, by omega⟩)⟩) ((P3.same S4).mono (by rw [hc]; omega)) (fun c o hc z => S4 c o (B3 c o hc (B12 c o hc z)))
        exact pw.imp fun v d h => h.imp (fun a z => N1 _ (B2.free (P2.ne z.1).symm z.1)) (fun a o _ z => S4 a o z) _ _ _
    repeat walk_at "h"
    refine i_eqI ?_
    repeat walk_at "h"
    refine ite_d2 (fun c1 => ?_) (fun c1 => ?_)
    case refine_1 =>
      repeat walk_at "h"
      refine ⟨_, _, _, rfl, P1, by omega, by omega, by omega, fun j H2 j0 j1 P2 B2 => ?_⟩
      repeat walk_at "h"
      refine i_rngv (by omega) (by omega) ?_
      obtain ⟨jn, rfl⟩ : ∃ jn : Nat, j = (jn : Int) := ⟨j.toNat, by omega⟩
      have hjn : jn ≤ 3 := by omega
      have hb : ∀ i : Nat, i < jn → m + 2 + cst 2 * (i : Int) + cst 2 < 200000 := fun i hi => by
        have h1 : cst 2 * (i : Int) ≤ cst 2 * 2 := Int.mul_le_mul_of_nonneg_left (by omega) h0
        omega
      rw [show ((jn : Int)).toNat = jn from Int.toNat_natCast jn]
      have B12 := B1.trans B2
      refine lcq_range (n := jn) (fun D i H' acc => Pot H' p (m + 2 + cst 2 * i) ∧ But p H2 H' ∧ p ≠ D ∧ H2 D = none ∧ ∃ ds, Pw (Dv (fun a => H2 a = none ∧ a ≠ D) H' 3) acc ds) (fun D H' S h e => ⟨(P2.same S).mono (by omega), S.but, P2.ne h, h, [], .nil⟩) ?_ ?_
      · rintro D i H3 acc hi hlen hD ⟨P3, B3, hne, hD2, ds, pw⟩
        repeat walk_at "h"
        refine ⟨rfl, ?_⟩
        repeat walk_at "h"
        refine ⟨p, _, rfl, P3, hb i (by omega), fun v d H4 hv P4 B4 => ?_⟩
        refine turn_end (B4 _ _ hne.symm hD) hlen (by omega) fun H5 B5 e5 => ⟨(P4.butA hne B5).mono (by rw [Int.natCast_add, Int.mul_add]; show m + 2 + cst 2 * i + cst 2 ≤ m + 2 + (cst 2 * i + cst 2 * 1); omega), fun c o hc z => B5 c o (ne_of_none z hD2) (B4 c o hc (B3 c o hc z)), hne, hD2, ds ++ [d], ?_⟩
        refine Pw.snoc (pw.imp fun v d h => (h.but (p := p) (fun z => P2.ne z.1 rfl) B4).but (p := D) (fun z => z.2 rfl) B5) ?_
        have hv : Dv (fun a => H2 a = none ∧ a ≠ D) H4 3 v d := hv.imp (fun a z => ⟨B3.free (P3.ne z).symm z, fun q => by rw [q, hD] at z; cases z⟩) (fun _ _ _ z => z) _ _ _
        exact hv.but (p := D) (fun z => z.2 rfl) B5
      · rintro D H3 acc hlen hD ⟨P3, B3, hne, hD2, ds, pw⟩
        repeat walk_at "h"
        have hl := pw.len
        have hj : cst 2 * (jn : Int) ≤ cst 2 * 3 := Int.mul_le_mul_of_nonneg_left (by omega) h0
        refine k (.ref D) (.list ds) H3 (.inr ⟨D, rfl, N1 _ (B2.free (P2.ne hD2).symm hD2), .inl ⟨acc, ds, rfl, hD, ?_, by omega⟩⟩) (P3.mono (by rw [hc]; omega)) (fun c o hc z => B3 c o hc (B12 c o hc z))
        exact pw.imp fun v d h => h.imp (fun a z => N1 _ (B2.free (P2.ne z.1).symm z.1)) (fun a o _ z => z) _ _ _
    repeat walk_at "h"
    refine i_eqI ?_
    repeat walk_at "h"
    refine ite_d2 (fun c2 => ?_) (fun c2 => ?_)
    case refine_1 =>
      repeat walk_at "h"
      show tDisp _ _ _ _
      intro q hq
      show tPairs _ _ _ _
      have S2 : Same H1 (upd H1 q (.dK [])) := fun b u e => by rw [upd_ne (ne_of_none e hq)]; exact e
      have e2 : upd H1 q (.dK []) q = some (.dK []) := upd_same
      have P2 := P1.same S2
      have nq := P1.ne hq
      generalize upd H1 q (.dK []) = H2 at S2 e2 P2
      unfold tPairs
      repeat walk_at "h"
      refine ⟨p, _, rfl, P2, by omega, fun v d H4 hv P4 B4 => ?_⟩
      have e4 := B4 _ _ nq.symm e2
      refine ⟨e4, [(.inr "a", v)], rfl, by show 1 ≤ 15; decide, ?_⟩
      have hv : Dv (fun a => H a = none ∧ a ≠ q) H4 3 v d := hv.imp (fun a z => ⟨N1 _ (S2.free z), fun r => by rw [r, e2] at z; cases z⟩) (fun _ _ _ z => z) _ _ _
      have hB : ∀ b u, b ≠ q → H4 b = some u → upd H4 q (.dK [(.inr "a", v)]) b = some u := fun b u n e => by rw [upd_ne n]; exact e
      show Q (.ref q) (upd H4 q (.dK [(.inr "a", v)]))
      refine k (.ref q) (.dict [(.str "a", d)]) _ (.inr ⟨q, rfl, N1 _ hq, .inr (.inr (.inr ⟨"a", v, d, rfl, upd_same, hv.imp (fun a z => z.1) (fun a o z => hB a o z.2) _ _ _, by decide +kernel⟩))⟩) ((P4.butA nq But.upd).mono (by rw [hc]; omega)) (fun c o hc z => hB c o (ne_of_none (B1 c o hc z) hq) (B4 c o hc (S2 _ _ (B1 c o hc z))))
    have NN := N1
    have PP := P1
    repeat walk_at "h"
    refine i_dnew fun d3 H3 S3 f3 e3 => ?_
    repeat walk_at "h"
    rename_i t1 H11 S1 f1 e1 l2 H2 S2 f2 e2 t4 H4 S4 f4 e4 t5 H5 S5 f5 e5 l6 H6 S6 f6 e6
    have T5 := (((S1.trans S2).trans S3).trans S4).trans S5
    have PP6 := PP.same (T5.trans S6)
    have f1 := NN _ f1
    have f2 := NN _ (S1.free f2)
    have f3 := NN _ (S1.free (S2.free f3))
    have f4 := NN _ (S1.free (S2.free (S3.free f4)))
    have f5 := NN _ (S1.free (S2.free (S3.free (S4.free f5))))
    have nl : p ≠ l6 := (PP.same T5).ne f6
    refine ⟨p, l6, Leafs t1 l2 d3 t4 t5, _, rfl, PP6, by omega, nl.symm, .of e6, by show 0 < 15; decide, by show 15 < 1000000; decide, fun v H7 hv P7 B7 => ?_⟩
    have up : ∀ {a : Addr} {o : HO}, H a = none → H6 a = some o → H7 a = some o := fun {a o} n z => B7 a o (fun q => by rw [q] at n; exact PN n) z
    obtain ⟨d, hd⟩ := leaf_dv (F := fun a => H a = none) hv f1 f2 f3 f4 f5 (up f1 (S6 _ _ (S5 _ _ (S4 _ _ (S3 _ _ (S2 _ _ e1)))))) (up f2 (S6 _ _ (S5 _ _ (S4 _ _ (S3 _ _ e2))))) (up f3 (S6 _ _ (S5 _ _ (S4 _ _ e3)))) (up f4 (S6 _ _ (S5 _ _ e4))) (up f5 (S6 _ _ e5))
    exact k v d H7 ((hd.ups 3)) (P7.mono (by rw [hc]; omega)) (fun c o n z => B7 c o n (S6 _ _ (T5 _ _ (B1 c o n z))))
theorem sc__law_right : FnScope ["_law_pot_here", "_law_value_here", "_law_made_here", "_law_base", "_law_at", "_law_error", "_law_spot"] ["_law_pot_here"] (defScope s__law_right) := ⟨rfl, rfl, rfl, by decide +kernel, rfl, by decide +kernel, by decide +kernel⟩
theorem ok__law_right (T : Tx K mg) : FnGAt P w K mg base CX0 7 (He.ga K "_law_right") ["_law_pot_here"] (spRound 60) := by
  refine fun_okG T.f__law_right.f sc__law_right ?_ (fun cdv A outer s H vs Q E hgd hr h => ?_)
  · walk_at "len"
  · obtain ⟨p, n, rfl, hP, hn, k⟩ := h
    refine ⟨_, (pss_cons (ps_set (i := 1) sc__law_right.nd rfl (.inl rfl) (pe_fn T.f__law_value (ok__law_value_3 T) (hr.mono (by decide)) (pa_cons (pv 0) (pa_cons pe_int pa_nil))))
      (pss_cons (ps_par (i := 2) (j := 3) rfl sc__law_right.nd rfl rfl (by decide) rfl rfl (pa_cons (pe_fn T.f__law_made (ok__law_made T) (hr.mono (by decide)) (pa_cons (pv 1) pa_nil)) (pa_cons (pe_mkE (T.e_all "MeterError" (by decide +kernel)).o (T.i_all "MeterError" (by decide +kernel)) T.t_init T.m_MeterError (ok_MeterError___init__ T) T.d_MeterError___init__.b (hr.mono (by decide)) (pa_cons (pv 1) pa_nil)) pa_nil)) rfl)
      (pss_cons (ps_for PassesOwn.never rfl (pi_enum rfl T.b_enumerate (pa_cons (pv 2) pa_nil)) (pg_tup rfl (pgs_cons (pg_name (i := 4) sc__law_right.nd rfl (.inr rfl)) (pgs_cons (pg_name (i := 5) sc__law_right.nd rfl (.inl rfl)) pgs_nil))) (pss_cons (ps_if (PW.pt (pw_or (pt_cmpR (op_neD hr.units) (pe_fn T.f__law_marks (ok__law_marks T) (hr.mono (by decide)) (pa_cons (pv 5) pa_nil)) (pe_lc (own := [("_law_spot", 6)]) rfl sc__law_right.nd (pi_range1 rfl T.b_range (pa_cons (pe_callB cr_len rfl T.b_len (by decide +kernel) (pa_cons (pv 2) pa_nil)) pa_nil)) (blkOk_by (own := [("_law_spot", 6)]) (N := ["_law_pot_here", "_law_value_here", "_law_made_here", "_law_base", "_law_at", "_law_error", "_law_spot"]) (sc := defScope s__law_right) (by decide +kernel)) (fun _ _ _ _ _ => (pg_name (i := 6) sc__law_right.nd rfl (.inl rfl))) (fun _ _ _ _ _ => pts_nil) (fun _ _ _ _ _ => (pe_cmpR op_eq (pv 4) (pv 6) (nomark _)))) (nomark _)) (pw_or1 (pt_cmpR op_ne (pe_callB (cr_reprV hgd hr T.y_sys) rfl T.b_repr (by decide +kernel) (pa_cons (pe_errv (pv 5)) pa_nil)) (pe_callB (cr_reprV hgd hr T.y_sys) rfl T.b_repr (by decide +kernel) (pa_cons (pv 1) pa_nil)) (nomark _))))) (pss_one (ps_ret pe_bl)) pss_nil)
      (pss_one (ps_if (PW.pt (pw_or (pt_not (pt_val (pe_callB call_isEr rfl T.b_isinstance (by decide +kernel) (pa_cons (pv 5) (pa_cons (pe_glob (v := .ref _) rfl T.m_MeterError rfl) pa_nil))))) (pw_or1 (pt_not (pt_val (pe_callB call_isEr rfl T.b_isinstance (by decide +kernel) (pa_cons (pv 5) (pa_cons (pe_bltn (v := .ty "ValueError") rfl T.b_ValueError (by decide +kernel) rfl) pa_nil)))))))) (pss_one (ps_ret pe_bl)) pss_nil))))
      (pss_one (ps_ret (pe_and (pe_cmpR op_eq (pe_callB (cr_reprV hgd hr T.y_sys) rfl T.b_repr (by decide +kernel) (pa_cons (pe_errv (pv 3)) pa_nil)) (pe_callB (cr_reprV hgd hr T.y_sys) rfl T.b_repr (by decide +kernel) (pa_cons (pv 1) pa_nil)) (nomark _)) (pe_and (pe_callB call_isEr rfl T.b_isinstance (by decide +kernel) (pa_cons (pv 3) (pa_cons (pe_bltn (v := .ty "ValueError") rfl T.b_ValueError (by decide +kernel) rfl) pa_nil))) (pe_one (pe_not (pe_callB (cr_any rfl) rfl T.b_any (by decide +kernel) (pa_cons (pe_fn T.f__law_marks (ok__law_marks T) (hr.mono (by decide)) (pa_cons (pv 3) pa_nil)) pa_nil))))))))))), ?_⟩
    refine My.i_go (σ' := [some _, none, none, none, none, none, none]) rfl ?_
    have hc3 : cst 3 = 53 := rfl
    have hi : ∀ c ∈ ecs, c ∈ ecs0 := by decide +kernel
    have hm0 : ("MeterError" : Str) ∈ ecs0 := by decide +kernel
    have hM : ∀ c ∈ ecs, He.ga K c ≠ He.ga K "MeterError" := fun c hc z => by
      have := inj_of T.dist c (hi c hc) "MeterError" hm0 z
      subst this
      exact absurd hc (by decide +kernel)
    have hw : ∀ c ∈ ecs, mroB K (He.ga K c) (He.ga K "MeterError") = true := fun c hc => T.w_all c (by have : ecs0.tail = ecs := rfl; rw [this]; exact hc)
    have kit : ∀ c ∈ ecs, ∀ s ∈ ecs, PySem.W.kitOne K (.ref (He.ga K c)) (.ref (He.ga K s)) = some (decide (s = c)) := fun c hc s hs => by
      rw [kit_er (T.e_all s (hi s hs)) (hw c hc) (hM s hs)]
      congr 1
      rw [decide_eq_decide]
      exact ⟨fun z => inj_of T.dist s (hi s hs) c (hi c hc) z, fun z => by rw [z]⟩
    repeat walk_at "h"
    refine ⟨p, n, rfl, hP, by omega, fun v d H1 hv P1 B1 => ?_⟩
    repeat walk_at "h"
    refine ⟨v, rfl, fun q H2 as S2 q0 hq hE => ?_⟩
    repeat walk_at "h"
    refine i_mkE (T.e_all "MeterError" hm0) fun b H3 S3 b0 Ab => ?_
    have hq := S3 _ _ hq
    have hE := hE.same S3
    have hv := (hv.same S2).same S3
    have P3 := (P1.same S2).same S3
    have hl := hE.len
    have B3 : But p H H3 := fun c o hc z => S3 _ _ (S2 _ _ (B1 c o hc z))
    clear S3 S2 B1 b0 q0 P1
    repeat walk_at "h"
    refine i_wev (.of hq) ?_
    refine forq_enum (xs := as.map V.ref) (fun i σ H' => ∃ (v4 v5 v6 : Option V), σ = [some (.ref p), some v, some (.ref q), some (.ref b), v4, v5, v6] ∧ Same H3 H') ⟨_, _, _, rfl, .refl _⟩ ?_ ?_ ?_
    · rintro i σ H' hi' ⟨v4, v5, v6, rfl, S⟩
      exact .of (S _ _ hq)
    · rintro i x σ H' t H4 hx ⟨v4, v5, v6, rfl, S⟩ S4 t0 ht
      have S := S.trans S4
      obtain ⟨a, ha, rfl⟩ : ∃ a, as[i]? = some a ∧ x = V.ref a := by
        rw [List.getElem?_map] at hx
        cases e : as[i]? with
        | none => rw [e] at hx; cases hx
        | some a => rw [e] at hx; exact ⟨a, rfl, (Option.some.inj hx).symm⟩
      obtain ⟨c, hc, hA⟩ := (hE.same S).at_ ha
      have hcm : c ∈ ecs := List.mem_of_getElem? hc
      repeat walk_at "h"
      refine ⟨a, _, v, fun s => decide (s = c), rfl, hA, T.e_all c (hi c hcm), kit c hcm, fun m H5 S5 m0 hm => ?_⟩
      have S := S.trans S5
      have hA := hA.same S5
      rw [marks_eq hc] at hm
      have hq5 := S _ _ hq
      clear S5 S4
      repeat walk_at "h"
      rw [List.length_map, hl]
      refine i_rngv (by decide) (by decide) ?_
      refine lcq_range (n := 25) (fun D j H' acc => Same H5 H' ∧ H5 D = none ∧ acc = ((List.range j).map fun t => decide (i = t)).map V.bl) (fun D H' S h e => ⟨S, h, rfl⟩) ?_ ?_
      · rintro D j H6 acc hj hlen hD ⟨S6, hD5, rfl⟩
        repeat walk_at "h"
        refine ⟨rfl, ?_⟩
        repeat walk_at "h"
        refine i_eqI ?_
        refine turn_end hD hlen (by omega) fun H7 B7 e7 => ⟨fun c o z => B7 c o (ne_of_none z hD5) (S6 _ _ z), hD5, ?_⟩
        rw [List.range_succ, List.map_append, List.map_append]
        congr 1
        show [V.bl (decide ((i : Int) = 0 + (j : Int)))] = [V.bl (decide (i = j))]
        rw [decide_eq_decide.mpr (show ((i : Int) = 0 + (j : Int)) ↔ i = j by omega)]
      · rintro D H6 acc hlen hD ⟨S6, hD5, rfl⟩
        have S := S.trans S6
        have hA := hA.same S6
        have hv6 := hv.same S
        repeat walk_at "h"
        refine i_neBl (.of (S6 _ _ hm)) (.of hD) ?_
        repeat walk_at "h"
        refine i_errv hA (T.e_all c (hi c hcm)) ?_
        repeat walk_at "h"
        refine i_reprV hv6 (by decide) ?_
        repeat walk_at "h"
        refine i_reprV hv6 (by decide) ?_
        repeat walk_at "h"
        refine i_neS rfl ?_
        repeat walk_at "h"
        refine i_isE hA (T.e_all c (hi c hcm)) (kit_erM (T.e_all "MeterError" hm0) (hw c hcm)) ?_
        repeat walk_at "h"
        refine i_isEt hA (T.e_all c (hi c hcm)) (kit_V (hw c hcm)) ?_
        repeat walk_at "h"
        exact ⟨_, _, _, rfl, S⟩
    · rintro σ H' ⟨v4, v5, v6, rfl, S⟩
      have hv6 := hv.same S
      have hA := Ab.same S
      repeat walk_at "h"
      refine i_errv hA (T.e_all "MeterError" hm0) ?_
      repeat walk_at "h"
      refine i_reprV hv6 (by decide) ?_
      repeat walk_at "h"
      refine i_reprV hv6 (by decide) ?_
      repeat walk_at "h"
      refine i_eqS ?_
      repeat walk_at "h"
      refine i_isEt hA (T.e_all "MeterError" hm0) (kit_V0 T.w_0) ?_
      repeat walk_at "h"
      refine ⟨b, _, v, fun _ => false, rfl, hA, T.e_all "MeterError" hm0, fun c hc => kit_er0 (T.e_all c (hi c hc)) T.w_0 (hM c hc), fun m H5 S5 m0 hm => ?_⟩
      repeat walk_at "h"
      refine i_any (.of hm) ?_
      repeat walk_at "h"
      exact k _ (fun c o hc z => S5 _ _ (S _ _ (B3 c o hc z))) (((P3.same S).same S5).mono (by omega))
theorem sc_law : FnScope ["_law_script", "_law_place", "_law_pot_here", "_law_lap"] ["_law_script"] (defScope s_law) := ⟨rfl, rfl, rfl, by decide +kernel, rfl, by decide +kernel, by decide +kernel⟩
theorem ok_law (T : Tx K mg) : FnGAt P w K mg base CX0 8 (He.ga K "law") ["_law_script"] (spLaw K) := by
  refine fun_okG T.f_law.f sc_law ?_ (fun cdv A outer s H vs Q E hgd hr h => ?_)
  · walk_at "len"
  · obtain ⟨a, ns, rfl, hS, hn, k⟩ := h
    refine ⟨_, (pss_cons (ps_for PassesOwn.never rfl (pi_list (pe_fn T.f__law_cells (ok__law_cells T) (hr.mono (by decide)) (pa_cons (pv 0) (pa_cons pe_int pa_nil)))) (pg_name (i := 1) sc_law.nd rfl (.inl rfl)) (pss_cons (ps_set (i := 2) sc_law.nd rfl (.inr rfl) (pe_fn T.f__law_pot (ok__law_pot T) (hr.mono (by decide)) (pa_cons (pv 0) (pa_cons (pv 1) pa_nil))))
      (pss_one (ps_if (pt_not (pt_val (pe_callB (cr_all rfl) rfl T.b_all (by decide +kernel) (pa_cons (pe_lc (own := [("_law_lap", 3)]) rfl sc_law.nd (pi_range1 rfl T.b_range (pa_cons pe_int pa_nil)) (blkOk_by (own := [("_law_lap", 3)]) (N := ["_law_script", "_law_place", "_law_pot_here", "_law_lap"]) (sc := defScope s_law) (by decide +kernel)) (fun _ _ _ _ _ => (pg_name (i := 3) sc_law.nd rfl (.inl rfl))) (fun _ _ _ _ _ => pts_nil) (fun _ _ _ _ _ => (pe_fnG T.f__law_right (ok__law_right T) hgd (hr.mono (by decide)) (pa_cons (pv 2) pa_nil)))) pa_nil)))) (pss_one (ps_ret pe_bl)) pss_nil))))
      (pss_one (ps_ret pe_bl))), ?_⟩
    refine My.i_go (σ' := [some _, none, none, none]) rfl ?_
    repeat walk_at "h"
    refine ⟨_, _, _, rfl, hS, hn, by omega, fun q H1 j hj S1 hq0 hq => ?_⟩
    repeat walk_at "h"
    have hS1 := S1.seq hS
    refine forq_list (xs := rgV 0 j) (fun i σ H' => ∃ v2 v3 v4 : Option V, σ = [some (.ref a), v2, v3, v4] ∧ Same H1 H') ⟨_, _, _, rfl, .refl _⟩ ?_ ?_ ?_
    · rintro i σ H' hi ⟨v2, v3, v4, rfl, S⟩
      exact .of (S _ _ hq)
    · rintro i x σ H' hx ⟨v2, v3, v4, rfl, S⟩
      obtain ⟨rfl, hi⟩ := rgV_at hx
      repeat walk_at "h"
      refine ⟨_, _, _, rfl, S.seq hS1, by omega, by omega, fun p H2 S2 hp P => ?_⟩
      have SS := S.trans S2
      have hp1 := S.free hp
      repeat walk_at "h"
      refine lcq_range (n := 3) (fun A i H' acc => Same H1 H' ∧ Pot H' p (60 * i) ∧ p ≠ A ∧ H1 A = none ∧ acc = List.replicate i (.bl true)) (fun A H' S h e => ⟨SS.trans S, (P.same S).mono (by omega), P.ne h, SS.free h, rfl⟩) ?_ ?_
      · rintro A i H3 acc hi hlen hA ⟨S3, P3, hne, hA1, rfl⟩
        repeat walk_at "h"
        refine ⟨rfl, ?_⟩
        repeat walk_at "h"
        refine ⟨_, _, rfl, P3, by omega, fun H4 B4 P4 => ?_⟩
        refine turn_end (B4 _ _ hne.symm hA) hlen (by omega) fun H5 B5 e5 => ⟨fun c o z => B5 c o (ne_of_none z hA1) (B4 c o (ne_of_none z hp1) (S3 c o z)), (P4.butA hne B5).mono (by omega), hne, hA1, List.replicate_succ'.symm⟩
      · rintro A H3 acc hlen hA ⟨S3, P3, hne, hA1, rfl⟩
        repeat walk_at "h"
        refine i_all (bs := List.replicate 3 true) (.of hA) ?_
        repeat walk_at "h"
        refine iteF ?_
        repeat walk_at "h"
        exact ⟨_, _, _, rfl, S3⟩
    · rintro σ H' ⟨v2, v3, v4, rfl, S⟩
      repeat walk_at "h"
      exact k H'
end
/-! ### the end -/
def ds : List Df := [⟨fun K => He.ga K "_law_pot", "_law_pot", "_law_pot", s__law_pot⟩, ⟨fun K => He.ga K "_law_take", "_law_take", "_law_take", s__law_take⟩, ⟨fun K => He.ga K "_law_of", "_law_of", "_law_of", s__law_of⟩, ⟨fun K => He.ga K "_law_cells", "_law_cells", "_law_cells", s__law_cells⟩, ⟨fun K => He.ga K "_law_value", "_law_value", "_law_value", s__law_value⟩, ⟨fun K => He.ga K "_law_made", "_law_made", "_law_made", s__law_made⟩, ⟨fun K => He.ga K "_law_marks", "_law_marks", "_law_marks", s__law_marks⟩, ⟨fun K => He.ga K "_law_right", "_law_right", "_law_right", s__law_right⟩, ⟨fun K => He.ga K "law", "law", "law", s_law⟩, ⟨fun K => He.ma K (He.ga K "MeterError") "__init__", "__init__", "MeterError.__init__", s_MeterError___init__⟩]
def fa : List He.Fa := [.glo "_law_pot", .glo "_law_take", .glo "_law_of", .glo "_law_cells", .glo "_law_value", .glo "_law_made", .glo "_law_marks", .glo "_law_right", .glo "law", .free "ValueError", .free "list", .free "enumerate", .free "int", .free "range", .free "tuple", .free "isinstance", .free "len", .free "max", .free "repr", .free "any", .free "all", .free "abs", .free "min", .meth "MeterError" "__init__", .glo "MeterError", .glo "BadRatio", .glo "Short", .glo "BadMany", .glo "BadBench", .glo "NoMeter", .glo "NoLoad", .glo "LastMeter", .glo "BadSpread", .glo "BadSetting", .glo "BadStep", .glo "BadSteps", .glo "TooMany", .glo "BadLog", .glo "NoFit", .glo "Unlike", .glo "BadOffers", .glo "BadHopes", .glo "NotNow", .glo "Hunting", .glo "BadSource", .glo "NothingToUndo", .glo "NothingToRedo", .glo "NoTrial", .glo "BadJournal", .glo "BadLine"]
def exs (K : PySem.W.Frag) : List Bool := [ecs0.all (fun c => eokB K (He.ga K c)) && clsB K, ecs0.all (fun c => He.eqO (PySem.W.findIn K (.ref (He.ga K c)) "__init__") (some (some (.ref (He.ma K (He.ga K "MeterError") "__init__"))))), decide (PySem.W.typeIn K (.ref (He.ma K (He.ga K "MeterError") "__init__")) = some (.type "function")), ecs0.tail.all (fun c => mroB K (He.ga K c) (He.ga K "MeterError")), mroB0 K (He.ga K "MeterError"), decide (ecs0.map (He.ga K)).Nodup, sysB K]
def ex (K : PySem.W.Frag) : Bool := fa.all (He.Fa.ok K) && (exs K).all id
theorem tx {K : PySem.W.Frag} {h : Heap} {mg : Str → Option Value} (X : K.In h) (G : h.Ns mainGlobals mg) (c : obsK ex ds K = valK ds) : Tx K mg := by
  obtain ⟨e1, e2⟩ := He.ba (says_ex c)
  have E0 : ecs0.all (fun c => eokB K (He.ga K c)) && clsB K = true := all_get e2 0 rfl
  have E1 : ecs0.all (fun c => He.eqO (PySem.W.findIn K (.ref (He.ga K c)) "__init__") (some (some (.ref (He.ma K (He.ga K "MeterError") "__init__"))))) = true := all_get e2 1 rfl
  have E2 : decide (PySem.W.typeIn K (.ref (He.ma K (He.ga K "MeterError") "__init__")) = some (.type "function")) = true := all_get e2 2 rfl
  have E3 : ecs0.tail.all (fun c => mroB K (He.ga K c) (He.ga K "MeterError")) = true := all_get e2 3 rfl
  have E4 : mroB0 K (He.ga K "MeterError") = true := all_get e2 4 rfl
  have E5 : decide (ecs0.map (He.ga K)).Nodup = true := all_get e2 5 rfl
  have E6 : sysB K = true := all_get e2 6 rfl
  exact {
    f__law_pot := gfn_of X G (all_get e1 0 rfl) (says_fun c 0 rfl) (fun _ _ _ _ _ _ us hl => match us, hl with | [_, _], _ => rfl)
    f__law_take := gfn_of X G (all_get e1 1 rfl) (says_fun c 1 rfl) (fun _ _ _ _ _ _ us hl => match us, hl with | [_, _], _ => rfl)
    f__law_of := gfn_of X G (all_get e1 2 rfl) (says_fun c 2 rfl) (fun _ _ _ _ _ _ us hl => match us, hl with | [_, _], _ => rfl)
    f__law_cells := gfn_of X G (all_get e1 3 rfl) (says_fun c 3 rfl) (fun _ _ _ _ _ _ us hl => match us, hl with | [_, _], _ => rfl)
    f__law_value := gfn_of X G (all_get e1 4 rfl) (says_fun c 4 rfl) (fun _ _ _ _ _ _ us hl => match us, hl with | [_, _], _ => rfl)
    f__law_made := gfn_of X G (all_get e1 5 rfl) (says_fun c 5 rfl) (fun _ _ _ _ _ _ us hl => match us, hl with | [_], _ => rfl)
    f__law_marks := gfn_of X G (all_get e1 6 rfl) (says_fun c 6 rfl) (fun _ _ _ _ _ _ us hl => match us, hl with | [_], _ => rfl)
    f__law_right := gfn_of X G (all_get e1 7 rfl) (says_fun c 7 rfl) (fun _ _ _ _ _ _ us hl => match us, hl with | [_], _ => rfl)
    f_law := gfn_of X G (all_get e1 8 rfl) (says_fun c 8 rfl) (fun _ _ _ _ _ _ us hl => match us, hl with | [_], _ => rfl)
    b_ValueError := He.free_ok X G (all_get e1 9 rfl)
    b_list := He.free_ok X G (all_get e1 10 rfl)
    b_enumerate := He.free_ok X G (all_get e1 11 rfl)
    b_int := He.free_ok X G (all_get e1 12 rfl)
    b_range := He.free_ok X G (all_get e1 13 rfl)
    b_tuple := He.free_ok X G (all_get e1 14 rfl)
    b_isinstance := He.free_ok X G (all_get e1 15 rfl)
    b_len := He.free_ok X G (all_get e1 16 rfl)
    b_max := He.free_ok X G (all_get e1 17 rfl)
    b_repr := He.free_ok X G (all_get e1 18 rfl)
    b_any := He.free_ok X G (all_get e1 19 rfl)
    b_all := He.free_ok X G (all_get e1 20 rfl)
    b_abs := He.free_ok X G (all_get e1 21 rfl)
    b_min := He.free_ok X G (all_get e1 22 rfl)
    d_MeterError___init__ := gme_of (all_get e1 23 rfl) (says_fun c 9 rfl) (fun _ _ _ _ _ _ us hl => match us, hl with | [_, _], _ => rfl)
    m_MeterError := He.glo_ok X G (all_get e1 24 rfl)
    m_BadRatio := He.glo_ok X G (all_get e1 25 rfl)
    m_Short := He.glo_ok X G (all_get e1 26 rfl)
    m_BadMany := He.glo_ok X G (all_get e1 27 rfl)
    m_BadBench := He.glo_ok X G (all_get e1 28 rfl)
    m_NoMeter := He.glo_ok X G (all_get e1 29 rfl)
    m_NoLoad := He.glo_ok X G (all_get e1 30 rfl)
    m_LastMeter := He.glo_ok X G (all_get e1 31 rfl)
    m_BadSpread := He.glo_ok X G (all_get e1 32 rfl)
    m_BadSetting := He.glo_ok X G (all_get e1 33 rfl)
    m_BadStep := He.glo_ok X G (all_get e1 34 rfl)
    m_BadSteps := He.glo_ok X G (all_get e1 35 rfl)
    m_TooMany := He.glo_ok X G (all_get e1 36 rfl)
    m_BadLog := He.glo_ok X G (all_get e1 37 rfl)
    m_NoFit := He.glo_ok X G (all_get e1 38 rfl)
    m_Unlike := He.glo_ok X G (all_get e1 39 rfl)
    m_BadOffers := He.glo_ok X G (all_get e1 40 rfl)
    m_BadHopes := He.glo_ok X G (all_get e1 41 rfl)
    m_NotNow := He.glo_ok X G (all_get e1 42 rfl)
    m_Hunting := He.glo_ok X G (all_get e1 43 rfl)
    m_BadSource := He.glo_ok X G (all_get e1 44 rfl)
    m_NothingToUndo := He.glo_ok X G (all_get e1 45 rfl)
    m_NothingToRedo := He.glo_ok X G (all_get e1 46 rfl)
    m_NoTrial := He.glo_ok X G (all_get e1 47 rfl)
    m_BadJournal := He.glo_ok X G (all_get e1 48 rfl)
    m_BadLine := He.glo_ok X G (all_get e1 49 rfl)
    e_all := eok_all E0
    i_all := fun c hc => He.eqO_ok (List.all_eq_true.mp E1 c hc)
    t_init := of_decide_eq_true E2
    w_all := fun c hc => List.all_eq_true.mp E3 c hc
    w_0 := E4
    dist := of_decide_eq_true E5
    y_sys := sysB_ok E6
  }
abbrev RR : PySem.W.OpenRow := PySem.W.OpenLaw.row PySem.Challenge.rw_rangehunt_k08_errors_and_what_they_keep
def loose : List Str := (["__name__", "MeterError", "BadRatio", "Short", "BadMany", "BadBench", "NoMeter", "NoLoad", "LastMeter", "BadSpread", "BadSetting", "BadStep", "BadSteps", "TooMany", "BadLog", "NoFit", "Unlike", "BadOffers", "BadHopes", "NotNow", "Hunting", "BadSource", "NothingToUndo", "NothingToRedo", "NoTrial", "BadJournal", "BadLine", "_law_pot", "_law_take", "_law_of"] : List Str) ++ (["_law_cells", "_law_value", "_law_made", "_law_marks", "_law_right"] : List Str)
theorem run (w : World) : HandSHeadRun.RunEq RR (PySem.W.view RR.prog [36]) (hook 6 ex ds) (obT 6 ex ds) 6000 loose w := by
  intro os
  kernel_rfl
theorem law_fd {K : PySem.W.Frag} {mg : Str → Option Value} (T : Tx K mg) : ∀ (s : Shared) (v : Value), BindsTo s (fdOf K (He.ga K "law")) ⟨[v], []⟩ [("_law_script", v)] := by
  obtain ⟨oc, od, kV, doc, pm, an, cdv, ct, osl, e, hl, hc⟩ := T.f_law.f.ex
  have F : FunD K "law" "law" (defArgs s_law) (defBody s_law) (defScope s_law) [] [] (He.ga K "law") (fdOf K (He.ga K "law")) := ⟨⟨oc, od, .none, kV, doc, pm, an, cdv, ct, osl, e, hl, hc, .inl ⟨rfl, rfl⟩, .inl rfl⟩, T.f_law.f.kp⟩
  have b := FunD.bindsA (ps := ["_law_script"]) F fun _ _ _ _ _ _ us hl => match us, hl with | [_], _ => rfl
  exact fun s v => b s [v] rfl
end Lw
open PySem PySem.W PySem.Calls PyProof.Rows
theorem PySem.Challenge.cw_rangehunt_k08_errors_and_what_they_keep_holds : PySem.Challenge.rw_rangehunt_k08_errors_and_what_they_keep.Holds := by
  w_on; o_law
  refine HandSHeadRun.head_any (r := OpenLaw.row PySem.Challenge.rw_rangehunt_k08_errors_and_what_they_keep) (q := view (OpenLaw.row PySem.Challenge.rw_rangehunt_k08_errors_and_what_they_keep).prog [36]) (H := My.hook 6 Lw.ex Lw.ds) (ob := My.obT 6 Lw.ex Lw.ds) (M := 6000) (loose := Lw.loose) (d := HandSHeadRun.topDef (OpenLaw.row PySem.Challenge.rw_rangehunt_k08_errors_and_what_they_keep).prog 36) (kwd := []) My.obT_eq
    (by kernel_rfl) (fun s => by kernel_rfl) Lw.run (by kernel_rfl) (by kernel_rfl) (by kernel_rfl) (by rfl) (by first | assumption | decide +kernel) (by decide +kernel) ⟨rfl, rfl, rfl, rfl, rfl, by decide +kernel⟩ ?hw ?hc
  case hw => w_witness2
  case hc =>
    refine My.walk_ofG (l := PySem.Challenge.rw_rangehunt_k08_errors_and_what_they_keep) (n := 63) (k := 8) (x := "_law_script") rfl (by decide) (by kernel_rfl) ⟨rfl, by decide, by decide⟩ ?F
    intro w mg fa h Y G hmg0
    obtain ⟨K, KX, c⟩ := Y
    have T := Lw.tx KX G c
    have hmg : mg ("law" : PySem.Str) = some (.ref fa) := by
      have e : (HandSHeadRun.topDef (OpenLaw.row PySem.Challenge.rw_rangehunt_k08_errors_and_what_they_keep).prog 36).name = ("law" : PySem.Str) := by kernel_rfl
      rw [← e]
      exact hmg0
    have e := hmg.symm.trans T.f_law.m
    cases e
    exact ⟨K, _, My.spLaw K, KX, Lw.law_fd T, fun H a ns hn _ hS => ⟨a, ns, rfl, hS, hn, fun _ => rfl⟩, fun base _ _ => Lw.ok_law T⟩

