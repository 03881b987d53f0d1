import PyProof.Rows.All
import Wide.All
import OpenK.AllK
import Wide.FinOn
import HandS.ForMost
import HandS.Exc
import HandS.TryOnly
import HandS.WordsExc
import HandS.Wide
import HandS.Gcd
import HandS.Property
import HandS.Conv
import HandS.HeadHook1
import HandS.HeadHook4
import HandS.HeadWalk
import HandS.HeadEnd
import HandS.Head2
import HandS.IsInst
import HandS.NoneIn
import HandS.Style
import KE.KOpsOwn
import HandS.Head3
import PyProof.ReprLen
import HandS.ExcInit
import HandS.ExcField
import HandS.ExcIs
import HandS.Walk
import HandS.Lambda
import PySem.Challenge.RW_rangehunt_k02_sources_put_together
set_option Elab.async false
set_option linter.all false
set_option maxRecDepth 100000
set_option maxHeartbeats 0
/-! own layer, 1: one step at a time through a reading -/
namespace My
open PySem PySem.Spec PyProof.Rows L2
/-- a new tuple, a new list -/
def NewT (xs : List V) (H : Hp) (Q : VK) : Prop := xs.length ≤ sizeLine ∧ ∀ p, H p = none → Q (.ref p) (upd H p (.tup xs))
def NewL (xs : List V) (H : Hp) (Q : VK) : Prop := xs.length ≤ sizeLine ∧ ∀ p, H p = none → Q (.ref p) (upd H p (.lst xs))
section
variable {K : PySem.W.Frag} {σ : L2.St} {H H' : Hp} {ta tb tc te : TE} {t u : TS} {tt : TT} {D : Ends} {x y z v : V} {Q : VK} {QA : List V → Hp → Prop} {QB : Bool → Hp → Prop} {R : L2.St → Hp → Prop} {i : Nat}
theorem i_go {σ' : L2.St} (e : σ = σ') (h : t D σ' H) : t D σ H := e ▸ h
/-! ### statements -/
theorem i_seq (h : t { D with nx := u D } σ H) : tSeq t u D σ H := h
theorem i_next (h : D.nx σ H) : tNext D σ H := h
theorem i_asg {g : TG} (h : te σ H fun x H1 => g x σ H1 D.nx) : tAsg te g D σ H := h
theorem i_ret (h : te σ H D.rt) : tRet te D σ H := h
theorem i_retN (h : D.rt .non H) : tRetN D σ H := h
theorem i_drop (h : te σ H fun _ H1 => D.nx σ H1) : tDrop te D σ H := h
theorem i_if (h : tt σ H fun b H1 => if b = true then t D σ H1 else u D σ H1) : tIfS tt t u D σ H := h
theorem i_gname (h : R (σ.set i (some v)) H) : gName i v σ H R := h
theorem i_par {ta : TA} {j : Nat} (h : ta σ H fun vs H1 => ∃ v w, vs = [v, w] ∧ D.nx ((σ.set i (some v)).set j (some w)) H1) : tPar i j ta D σ H := h
/-! ### expressions -/
theorem i_var (e : σ[i]? = some (some v)) (h : Q v H) : tVar i σ H Q := ⟨v, e, h⟩
theorem i_c (h : Q v H) : tC v σ H Q := h
theorem i_op {r : R2} (h : ta σ H fun x H1 => tb σ H1 fun y H2 => r x y H2 Q) : tOp r ta tb σ H Q := h
theorem i_un {r : V → Hp → VK → Prop} (h : ta σ H fun x H1 => r x H1 Q) : tUn r ta σ H Q := h
theorem i_I0 {g : Int → Int → V} {a b : Int} (h : Q (g a b) H) : rI0 g (.int a) (.int b) H Q := ⟨a, b, rfl, rfl, h⟩
theorem i_I {C : Int → Int → Prop} {g : Int → Int → V} {a b : Int} (c : C a b) (h : Q (g a b) H) : rI C g (.int a) (.int b) H Q := ⟨a, b, rfl, rfl, c, h⟩
theorem i_U {g : Int → V} {a : Int} (h : Q (g a) H) : rU g (.int a) H Q := ⟨a, rfl, h⟩
theorem i_call {sp : Sp} {dvs : List V} {E : XK} {ta : TA} (h : ta σ H fun vs H1 => sp (vs ++ dvs) H1 Q E) : tCall sp dvs E ta σ H Q := h
theorem i_cb {r : List V → Hp → VK → Prop} {ta : TA} (h : ta σ H fun vs H1 => r vs H1 Q) : tCB r ta σ H Q := h
theorem i_nil (h : QA [] H) : tNil σ H QA := h
theorem i_cons {tr : TA} (h : te σ H fun x H1 => tr σ H1 fun xs H2 => QA (x :: xs) H2) : tCons te tr σ H QA := h
theorem i_tup {ta : TA} (h : ta σ H fun xs H1 => NewT xs H1 Q) : tTup ta σ H Q := h
theorem i_lst {ta : TA} (h : ta σ H fun xs H1 => NewL xs H1 Q) : tLst ta σ H Q := h
theorem i_ife (h : tt σ H fun c H1 => if c = true then ta σ H1 Q else tb σ H1 Q) : tIf tt ta tb σ H Q := h
theorem i_test (h : te σ H fun x H' => ∃ k, x = .bl k ∧ QB k H') : tTest te σ H QB := h
theorem i_tB (h : te σ H fun x H' => ∃ k, x = .bl k ∧ QB k H') : tB te σ H QB := h
theorem i_bl {k : Bool} (h : QB k H) : ∃ k', V.bl k = .bl k' ∧ QB k' H := ⟨k, rfl, h⟩
theorem i_not (h : tt σ H fun c H1 => QB (!c) H1) : tNot tt σ H QB := h
theorem i_and {tu : TT} (h : tt σ H fun c H1 => if c = true then tu σ H1 QB else QB false H1) : tAnd tt tu σ H QB := h
theorem i_or {tu : TT} (h : tt σ H fun c H1 => if c = true then QB true H1 else tu σ H1 QB) : tOr tt tu σ H QB := h
theorem i_andV (h : ta σ H fun x H1 => ∃ c, x = .bl c ∧ if c = true then tb σ H1 Q else Q (.bl false) H1) : tAndV ta tb σ H Q := h
theorem i_orV (h : ta σ H fun x H1 => ∃ c, x = .bl c ∧ if c = true then Q (.bl true) H1 else tb σ H1 Q) : tOrV ta tb σ H Q := h
theorem i_notV (h : ta σ H fun x H1 => ∃ c, x = .bl c ∧ Q (.bl (!c)) H1) : tNotV ta σ H Q := h
theorem i_blv {k : Bool} {P : Bool → Prop} (h : P k) : ∃ c, V.bl k = .bl c ∧ P c := ⟨k, rfl, h⟩
theorem i_fld {a C dx : Addr} {fs : List (Str × V)} {f : Str} (h : ta σ H fun x H1 => ∃ a C dx fs v, x = .ref a ∧ H1 a = some (.ins C dx fs) ∧ Cls K C ∧ NoAttr K C f ∧ fs.lookup f = some v ∧ Q v H1) : tFld K ta f σ H Q := h
theorem i_two {P : V → V → Prop} (h : P x y) : ∃ v w, [x, y] = [v, w] ∧ P v w := ⟨x, y, rfl, h⟩
/-- ints by the one-argument conversions -/
theorem i_ixL {p : Addr} {xs : List V} {n : Int} (hl : SqL K H p xs) (ha : atI xs n = some v) (h : Q v H) : rIxL K (.ref p) (.int n) H Q := ⟨p, xs, n, v, rfl, rfl, hl, ha, h⟩
theorem i_ixT {p : Addr} {xs : List V} {n : Int} (hl : SqT K H p xs) (ha : atI xs n = some v) (h : Q v H) : rIxT K (.ref p) (.int n) H Q := ⟨p, xs, n, v, rfl, rfl, hl, ha, h⟩
end
/-! ### built-in calls by name -/
section
variable {X : Cx}
def rInt1 : List V → Hp → VK → Prop := fun xs H Q => (∃ i, xs = [.int i] ∧ Q (.int i) H) ∨ ∃ k, xs = [.bl k] ∧ Q (.int (if k then 1 else 0)) H
theorem cr_int1 : CallR X (.type "int") rInt1 := call_int1
def rAbs : List V → Hp → VK → Prop := fun xs H Q => ∃ i, xs = [.int i] ∧ Q (.int (if i < 0 then -i else i)) H
theorem cr_abs : CallR X (.builtin "abs") rAbs := call_abs
def rMax2 : List V → Hp → VK → Prop := fun xs H Q => ∃ i j, xs = [.int i, .int j] ∧ Q (.int (if j > i then j else i)) H
theorem cr_max2 (hc : X.calm = true) : CallR X (.builtin "max") rMax2 := call_max2 hc
def rMin2 : List V → Hp → VK → Prop := fun xs H Q => ∃ i j, xs = [.int i, .int j] ∧ Q (.int (if j < i then j else i)) H
theorem cr_min2 (hc : X.calm = true) : CallR X (.builtin "min") rMin2 := call_min2 hc
def rLenA (K : PySem.W.Frag) : List V → Hp → VK → Prop := fun xs H Q => ∃ x n, xs = [x] ∧ LenV K x H n ∧ Q (.int n) H
theorem cr_len : CallR X (.builtin "len") (rLenA X.K) := call_len
def rListOf (K : PySem.W.Frag) : List V → Hp → VK → Prop := fun xs H Q => ∃ p ys, xs = [.ref p] ∧ (SqL K H p ys ∨ SqT K H p ys) ∧ ∀ l, H l = none → Q (.ref l) (upd H l (.lst ys))
theorem cr_listOf : CallR X (.type "list") (rListOf X.K) := call_list_of
/-- a power of two ints -/
def CPowW (i j : Int) : Prop := 0 ≤ j ∧ (Builtin.Int.intBits i : Int) * j ≤ 2 ^ 27
theorem op_powW : OpR X (binaryOp .Pow) (rI CPowW fun i j => .int (i ^ j.toNat)) := opI fun _ _ _ _ _ _ _ hc q => pow_int hc.1 hc.2 q
end
section
variable {K : PySem.W.Frag} {H : Hp} {Q : VK} {v : V} {xs : List V}
theorem i_int1 {a : Int} (h : Q (.int a) H) : rInt1 [.int a] H Q := .inl ⟨a, rfl, h⟩
theorem i_int1b {k : Bool} (h : Q (.int (if k then 1 else 0)) H) : rInt1 [.bl k] H Q := .inr ⟨k, rfl, h⟩
theorem i_abs {a : Int} (h : Q (.int (if a < 0 then -a else a)) H) : rAbs [.int a] H Q := ⟨a, rfl, h⟩
theorem i_max2 {a b : Int} (h : Q (.int (if b > a then b else a)) H) : rMax2 [.int a, .int b] H Q := ⟨a, b, rfl, h⟩
theorem i_min2 {a b : Int} (h : Q (.int (if b < a then b else a)) H) : rMin2 [.int a, .int b] H Q := ⟨a, b, rfl, h⟩
theorem i_lenL {p : Addr} (hl : SqL K H p xs) (h : Q (.int xs.length) H) : rLenA K [.ref p] H Q := ⟨.ref p, xs.length, rfl, .inl ⟨xs, hl, rfl⟩, h⟩
theorem i_lenT {p : Addr} (hl : SqT K H p xs) (h : Q (.int xs.length) H) : rLenA K [.ref p] H Q := ⟨.ref p, xs.length, rfl, .inr ⟨xs, hl, rfl⟩, h⟩
theorem i_ixsL {p : Addr} {n : Int} (hl : SqL K H p xs) (ha : atI xs n = some v) (h : Q v H) : rIx K (.ref p) (.int n) H Q := .inl ⟨p, xs, n, v, rfl, rfl, hl, ha, h⟩
theorem i_ixsT {p : Addr} {n : Int} (hl : SqT K H p xs) (ha : atI xs n = some v) (h : Q v H) : rIx K (.ref p) (.int n) H Q := .inr (.inl ⟨p, xs, n, v, rfl, rfl, hl, ha, h⟩)
/-! ### new objects: the heap behind is a new letter -/
theorem i_new {o : HO} (h : ∀ p H1, Same H H1 → H p = none → H1 p = some o → Q (.ref p) H1) : ∀ p, H p = none → Q (.ref p) (upd H p o) := fun p hp =>
  h p _ (fun b u e => by rw [upd_ne (ne_of_none e hp)]; exact e) hp upd_same
theorem i_szT (z : xs.length ≤ sizeLine) (h : ∀ p H1, Same H H1 → H p = none → H1 p = some (.tup xs) → Q (.ref p) H1) : NewT xs H Q := ⟨z, i_new h⟩
theorem i_szL (z : xs.length ≤ sizeLine) (h : ∀ p H1, Same H H1 → H p = none → H1 p = some (.lst xs) → Q (.ref p) H1) : NewL xs H Q := ⟨z, i_new h⟩
/-! ### frames -/
theorem _root_.L2.Same.seqT {K : PySem.W.Frag} {a : Addr} {H H' : Hp} {xs : List V} (e : L2.Same H H') (h : SqT K H a xs) : SqT K H' a xs := by
  rcases h with (h | ⟨o, h⟩) | h
  · exact .inl (.inl (e _ _ h))
  · exact .inl (.inr ⟨o, e _ _ h⟩)
  · exact .inr h

/-- all but what stands at p is as it was -/
def But (p : Addr) (H H' : Hp) : Prop := ∀ b o, b ≠ p → H b = some o → H' b = some o
theorem _root_.L2.Same.but {p : Addr} {H H' : Hp} (s : L2.Same H H') : But p H H' := fun b o _ e => s b o e
theorem But.refl {p : Addr} (H : Hp) : But p H H := fun _ _ _ h => h
theorem But.trans {p : Addr} {H H1 H2 : Hp} (a : But p H H1) (b : But p H1 H2) : But p H H2 := fun c o n h => b c o n (a c o n h)
theorem But.upd {p : Addr} {H : Hp} {o : HO} : But p H (upd H p o) := fun b u n h => by rw [upd_ne n]; exact h
theorem But.seq {K : PySem.W.Frag} {p a : Addr} {H H' : Hp} {xs : List V} (e : But p H H') (n : a ≠ p) (h : SqL K H a xs) : SqL K H' a xs := by
  rcases h with (h | ⟨o, h⟩) | h
  · exact .inl (.inl (e _ _ n h))
  · exact .inl (.inr ⟨o, e _ _ n h⟩)
  · exact .inr h
theorem But.seqT {K : PySem.W.Frag} {p a : Addr} {H H' : Hp} {xs : List V} (e : But p H H') (n : a ≠ p) (h : SqT K H a xs) : SqT K H' a xs := by
  rcases h with (h | ⟨o, h⟩) | h
  · exact .inl (.inl (e _ _ n h))
  · exact .inl (.inr ⟨o, e _ _ n h⟩)
  · exact .inr h
theorem But.free {p l : Addr} {H H' : Hp} (e : But p H H') (n : l ≠ p) (h : H' l = none) : H l = none := by
  cases q : H l with
  | none => rfl
  | some o =>
    rw [e l o n q] at h
    cases h
theorem atI_mem {xs : List V} {i : Int} (h0 : 0 ≤ i) (h1 : i < (xs.length : Int)) : ∃ v, atI xs i = some v ∧ v ∈ xs := by
  obtain ⟨j, rfl⟩ : ∃ j : Nat, i = (j : Int) := ⟨i.toNat, by omega⟩
  have hj : j < xs.length := by omega
  exact ⟨xs[j], atI_nat (List.getElem?_eq_getElem hj), List.getElem_mem hj⟩
theorem i_sub {to ti : TE} {t : TSet} {σ : L2.St} {R : L2.St → Hp → Prop} (h : to σ H fun o H1 => ti σ H1 fun i H2 => t o i v H2 fun H3 => R σ H3) : gSub to ti t v σ H R := h
theorem i_setL {p : Addr} {n : Int} {j : Nat} {R : Hp → Prop} (hl : H p = some (.lst xs)) (hj : ixN xs.length n = some j) (h : ∀ H1, But p H H1 → H1 p = some (.lst (xs.set j v)) → R H1) : rSetL (.ref p) (.int n) v H R :=
  ⟨p, xs, n, j, rfl, rfl, hl, hj, h _ But.upd upd_same⟩
theorem i_bm {T : String} {r : V → List V → Hp → VK → Prop} {to : TE} {t : TA} {σ : L2.St} (h : to σ H fun x H1 => tyV K T x H1 ∧ t σ H1 fun xs H2 => r x xs H2 Q) : tBM K T r to t σ H Q := h
theorem i_bm0 {T : String} {r : V → List V → Hp → VK → Prop} {to : TE} {σ : L2.St} (h : to σ H fun x H1 => tyV K T x H1 ∧ r x [] H1 Q) : tBM0 K T r to σ H Q := h
theorem i_tyL {p : Addr} {P : Prop} (hl : SqL K H p xs) (h : P) : tyV K "list" (.ref p) H ∧ P := ⟨.inl ⟨rfl, xs, hl⟩, h⟩
theorem i_app {l : Addr} {y : V} (hl : H l = some (.lst xs)) (hz : xs.length < sizeLine) (h : ∀ H1, But l H H1 → H1 l = some (.lst (xs ++ [y])) → Q .non H1) : rAppend (.ref l) [y] H Q := ⟨l, xs, y, rfl, rfl, hl, hz, h _ But.upd upd_same⟩
def NewR (a b : Int) (H : Hp) (Q : VK) : Prop := RgOk a b ∧ ∀ q, H q = none → Q (.ref q) (upd H q (.lst (rgV a b)))
theorem i_lstRg {t : L2.St → Hp → (Int → Int → Hp → Prop) → Prop} {σ : L2.St} (h : t σ H fun a b H1 => NewR a b H1 Q) : tLstRg t σ H Q := h
theorem i_rg1 {ta : TE} {σ : L2.St} {QQ : Int → Int → Hp → Prop} (h : ta σ H fun x H1 => ∃ n, x = .int n ∧ QQ 0 n H1) : tRg1 ta σ H QQ := h
theorem i_in {n : Int} {P : Int → Prop} (h : P n) : ∃ m, V.int n = .int m ∧ P m := ⟨n, rfl, h⟩
theorem i_newR {a b : Int} (z : RgOk a b) (h : ∀ p H1, Same H H1 → H p = none → H1 p = some (.lst (rgV a b)) → Q (.ref p) H1) : NewR a b H Q := ⟨z, i_new h⟩
/-- both ways of an expression's if, joined by what is told of the value -/
theorem i_join {c : Bool} {ta tb : TE} {σ : L2.St} (Pr : V → Prop) (h1 : c = true → ∀ Q : VK, (∀ v, Pr v → Q v H) → ta σ H Q) (h2 : c = false → ∀ Q : VK, (∀ v, Pr v → Q v H) → tb σ H Q) (h : ∀ v, Pr v → Q v H) : if c = true then ta σ H Q else tb σ H Q := by
  cases c with
  | true => exact h1 rfl Q h
  | false => exact h2 rfl Q h
theorem ite_nt {A B : Prop} (h : B) : if (!true) = true then A else B := h
theorem ite_nf {A B : Prop} (h : A) : if (!false) = true then A else B := h
theorem i_gcd {a b : Int} (h : Q (.int ((Nat.gcd a.natAbs b.natAbs : Nat) : Int)) H) : rGcd [.int a, .int b] H Q := ⟨a, b, rfl, h⟩
theorem dec_intV {a b : Int} : decide (V.int a = V.int b) = decide (a = b) := by
  rw [decide_eq_decide]
  exact ⟨fun z => V.int.inj z, fun z => z ▸ rfl⟩
theorem i_eqI {a b : Int} (h : Q (.bl (decide (a = b))) H) : rEq (.int a) (.int b) H Q := ⟨rfl, by rw [dec_intV]; exact h⟩
theorem i_neI {a b : Int} (h : Q (.bl (!decide (a = b))) H) : rNe (.int a) (.int b) H Q := ⟨rfl, by rw [dec_intV]; exact h⟩
theorem i_eqT {a b : Int} (e : a = b) (h : Q (.bl true) H) : rEq (.int a) (.int b) H Q := i_eqI (by rw [decide_eq_true e]; exact h)
theorem i_eqF {a b : Int} (e : ¬ a = b) (h : Q (.bl false) H) : rEq (.int a) (.int b) H Q := i_eqI (by rw [decide_eq_false e]; exact h)
theorem i_neF {a b : Int} (e : a = b) (h : Q (.bl false) H) : rNe (.int a) (.int b) H Q := i_neI (by rw [decide_eq_true e]; exact h)
theorem i_neT {a b : Int} (e : ¬ a = b) (h : Q (.bl true) H) : rNe (.int a) (.int b) H Q := i_neI (by rw [decide_eq_false e]; exact h)
/-- a comparison of ints whose answer is known -/
theorem i_leT {a b : Int} {p : Int → Int → Bool} (e : p a b = true) (h : Q (.bl true) H) : rI0 (fun i j => V.bl (p i j)) (.int a) (.int b) H Q := ⟨a, b, rfl, rfl, by show Q (V.bl (p a b)) H; rw [e]; exact h⟩
theorem i_leF {a b : Int} {p : Int → Int → Bool} (e : p a b = false) (h : Q (.bl false) H) : rI0 (fun i j => V.bl (p i j)) (.int a) (.int b) H Q := ⟨a, b, rfl, rfl, by show Q (V.bl (p a b)) H; rw [e]; exact h⟩
theorem ite_d {c A B : Prop} [Decidable c] (hc : c) (h : A) : if decide c = true then A else B := by rw [decide_eq_true hc]; exact iteT h
theorem ite_dn {c A B : Prop} [Decidable c] (hc : ¬ c) (h : B) : if decide c = true then A else B := by rw [decide_eq_false hc]; exact iteF h
theorem ite_nd {c A B : Prop} [Decidable c] (hc : c) (h : B) : if (!decide c) = true then A else B := by rw [decide_eq_true hc]; exact iteF h
theorem ite_ndn {c A B : Prop} [Decidable c] (hc : ¬ c) (h : A) : if (!decide c) = true then A else B := by rw [decide_eq_false hc]; exact iteT h
theorem ite_b {b : Bool} {A B : Prop} (h1 : b = true → A) (h2 : b = false → B) : if b = true then A else B := by
  cases b with
  | true => exact h1 rfl
  | false => exact h2 rfl
theorem ite_nb {b : Bool} {A B : Prop} (h1 : b = false → A) (h2 : b = true → B) : if (!b) = true then A else B := by
  cases b with
  | true => exact h2 rfl
  | false => exact h1 rfl
end
end My

/-! own layer, 2: where defs, methods, properties, operators stand; their calls -/
namespace My
open PySem PySem.Spec PyProof.Rows L2
def fdOf (K : PySem.W.Frag) (a : Addr) : FuncData := match K.lookup a with
  | some ⟨_, _, .func fd, _⟩ => fd
  | _ => ⟨"", "", ⟨[], [], none, [], [], none, []⟩, .stmts [], ⟨.function, [], false, false, []⟩, 0, [], .none, .none, .none, .none, none, .none, .none, 0⟩
/-- the getter of the property at p -/
def gtOf (K : PySem.W.Frag) (p : Addr) : Addr := match PySem.W.recIn K p "property" with
  | some (.ref g :: _) => g
  | _ => 0
/-- a module's def -/
structure GFn (K : PySem.W.Frag) (mg : Str → Option Value) (x : Str) (st : Stmt) (ps : List Str) : Prop where
  m : mg x = some (.ref (He.ga K x))
  f : Fun K x x st (He.ga K x) (fdOf K (He.ga K x))
  b : L2.Binds K (fdOf K (He.ga K x)) ps []
/-- a method of the class at C -/
structure GMe (K : PySem.W.Frag) (C : Addr) (m qual : Str) (st : Stmt) (ps : List Str) : Prop where
  h : Meth K C m (He.ma K C m)
  f : Fun K m qual st (He.ma K C m) (fdOf K (He.ma K C m))
  b : L2.Binds K (fdOf K (He.ma K C m)) ps []
/-- a property -/
structure GPr (K : PySem.W.Frag) (C : Addr) (m qual : Str) (st : Stmt) : Prop where
  p : PropOf K C m (He.ma K C m) (gtOf K (He.ma K C m))
  f : Fun K m qual st (gtOf K (He.ma K C m)) (fdOf K (gtOf K (He.ma K C m)))
  b : L2.Binds K (fdOf K (gtOf K (He.ma K C m))) ["self"] []
/-- a class that is made -/
structure GMk (K : PySem.W.Frag) (mg : Str → Option Value) (x : Str) : Prop where
  m : mg x = some (.ref (He.ga K x))
  k : Mk K (He.ga K x) (He.ma K (He.ga K x) "__init__")
abbrev FnAt (P : Program) (w : World) (K : PySem.W.Frag) (mg : Str → Option Value) (base : Heap) (CX : CXT) (k : Nat) (a : Addr) (ps : List Str) (sp : Sp) : Prop := FnOk P w K mg base CX k a (fdOf K a) ps sp
section
variable {X : Cx} {CX : CXT} {k : Nat} {x m qual : Str} {st : Stmt} {ps : List Str} {sp : Sp} {p pos apos : Pos} {e o : Expr} {es : List Expr} {t : TA} {ta : TE} {C : Addr}
theorem pe_fn (g : GFn X.K X.mg x st ps) (F : FnAt X.prog X.w X.K X.mg X.base CX k (He.ga X.K x) ps sp) (hr : Room k X.A) (ha : PA X (e :: es) t) (hx : Passes CX X E0 := by first | exact pass0 | exact passL) (hg : Gl X x := by rfl)
    (hdb : (x == ("__debug__" : Str)) = false := by decide) (he : starEach (e :: es) X.env = (false, eval e X.env) :: starEach es X.env := by rfl) (hpl : (backTo pos (starEach es X.env)).any (·.1) = false := by rfl) :
    PE X (.Call (.Name x p) (e :: es) [] pos) (tCall sp [] E0 t) := pe_call F hr hg g.m g.f.kp g.b .nil hx ha hdb he hpl
theorem pe_fnX {E : XK} (g : GFn X.K X.mg x st ps) (F : FnAt X.prog X.w X.K X.mg X.base CX k (He.ga X.K x) ps sp) (hr : Room k X.A) (hx : Passes CX X E) (ha : PA X (e :: es) t) (hg : Gl X x := by rfl)
    (hdb : (x == ("__debug__" : Str)) = false := by decide) (he : starEach (e :: es) X.env = (false, eval e X.env) :: starEach es X.env := by rfl) (hpl : (backTo pos (starEach es X.env)).any (·.1) = false := by rfl) :
    PE X (.Call (.Name x p) (e :: es) [] pos) (tCall sp [] E t) := pe_call F hr hg g.m g.f.kp g.b .nil hx ha hdb he hpl
theorem pe_me {pl : Sem Bool} (c : Cls X.K C) (g : GMe X.K C m qual st ps) (F : FnAt X.prog X.w X.K X.mg X.base CX k (He.ma X.K C m) ps sp) (hr : Room k X.A) (ho : PE X o ta) (ha : PA X (e :: es) t) (hx : Passes CX X E0 := by first | exact pass0 | exact passL)
    (hst : starEach (e :: es) X.env = (false, eval e X.env) :: starEach es X.env := by rfl) (hpl : (backTo pos (starEach es X.env)).any (·.1) = false := by rfl)
    (ht : eval (.Call (.Attribute o m apos) (e :: es) [] pos) X.env = (do
      let ov ← eval o X.env
      standAt apos.atName
      let (f, first) ← holding [ov] (getMethod ov m pl)
      callWith pos f first (backTo pos (starEach (e :: es) X.env)) (backToKw pos (keywordEach [] X.env))) := by rfl) :
    PE X (.Call (.Attribute o m apos) (e :: es) [] pos) (tMeth C m sp [] E0 ta t) := pe_meth ho c g.h F hr g.b .nil hx ha hst hpl ht
theorem pe_me0 {pl : Sem Bool} (c : Cls X.K C) (g : GMe X.K C m qual st ps) (F : FnAt X.prog X.w X.K X.mg X.base CX k (He.ma X.K C m) ps sp) (hr : Room k X.A) (ho : PE X o ta) (hx : Passes CX X E0 := by first | exact pass0 | exact passL)
    (ht : eval (.Call (.Attribute o m apos) [] [] pos) X.env = (do
      let ov ← eval o X.env
      standAt apos.atName
      let (f, first) ← holding [ov] (getMethod ov m pl)
      callWith pos f first (backTo pos (starEach [] X.env)) (backToKw pos (keywordEach [] X.env))) := by rfl) :
    PE X (.Call (.Attribute o m apos) [] [] pos) (tMeth C m sp [] E0 ta tNil) := pe_meth0 ho c g.h F hr g.b .nil hx ht
theorem pe_pr (c : Cls X.K C) (g : GPr X.K C m qual st) (F : FnAt X.prog X.w X.K X.mg X.base CX k (gtOf X.K (He.ma X.K C m)) ["self"] sp) (hr : Room (k + 1) X.A) (ho : PE X o ta) (hx : Passes CX X.nox E0 := by first | exact pass0 | exact passL)
    (hab : attributeBase o m X.env (eval o X.env) = eval o X.env := by rfl) : PE X (.Attribute o m pos) (tProp C sp [] E0 ta) := pe_prop ho c g.p F hr g.b .nil hx hab
theorem pe_mk (g : GMk X.K X.mg x) {fm : GMe X.K (He.ga X.K x) "__init__" qual st ps} (F : FnAt X.prog X.w X.K X.mg X.base CX k (He.ma X.K (He.ga X.K x) "__init__") ps sp) (hr : Room (k + 1) X.A) (ha : PA X (e :: es) t) (hx : Passes CX X E0 := by first | exact pass0 | exact passL) (hg : Gl X x := by rfl)
    (hdb : (x == ("__debug__" : Str)) = false := by decide) (he : starEach (e :: es) X.env = (false, eval e X.env) :: starEach es X.env := by rfl) (hpl : (backTo pos (starEach es X.env)).any (·.1) = false := by rfl) :
    PE X (.Call (.Name x p) (e :: es) [] pos) (tMake (He.ga X.K x) sp [] E0 t) := pe_make g.k F hr hg g.m fm.b .nil hx ha hdb he hpl
theorem pe_mkK {K : PySem.W.Frag} (hK : X.K = K) (g : GMk K X.mg x) {fm : GMe K (He.ga K x) "__init__" qual st ps} (F : FnAt X.prog X.w K X.mg X.base CX k (He.ma K (He.ga K x) "__init__") ps sp) (hr : Room (k + 1) X.A) (ha : PA X (e :: es) t) (hx : Passes CX X E0 := by first | exact pass0 | exact passL) (hg : Gl X x := by rfl)
    (hdb : (x == ("__debug__" : Str)) = false := by decide) (he : starEach (e :: es) X.env = (false, eval e X.env) :: starEach es X.env := by rfl) (hpl : (backTo pos (starEach es X.env)).any (·.1) = false := by rfl) :
    PE X (.Call (.Name x p) (e :: es) [] pos) (tMake (He.ga K x) sp [] E0 t) := by
  subst hK
  exact pe_mk g (fm := fm) F hr ha hx hg hdb he hpl
/-- what an own operator asks of the class -/
structure GOp (K : PySem.W.Frag) (C : Addr) (m qual : Str) (st : Stmt) : Prop where
  at_ : PySem.W.findIn K (.ref C) m = some (some (.ref (He.ma K C m)))
  fn : PySem.W.isFn K (.ref (He.ma K C m)) = true
  f : Fun K m qual st (He.ma K C m) (fdOf K (He.ma K C m))
  b : L2.Binds K (fdOf K (He.ma K C m)) ["self", "other"] []
/-- x op y of two instances of one class: the method's promise -/
def rOwn (C : Addr) (sp : Sp) : R2 := fun x y H Q => ∃ a b dx dy fs gs, x = .ref a ∧ y = .ref b ∧ H a = some (.ins C dx fs) ∧ H b = some (.ins C dy gs) ∧ sp [x, y] H Q E0
theorem back_of {pins : List (Addr × Obj)} {σ : L2.St} {Q : VK} {u : Value} {s : Shared} (h : EP X pins σ Q u s) : PySem.W.CmpBack (EP X pins σ Q) u s := by
  obtain ⟨v, H', I, r, q⟩ := h
  cases u with
  | notImplemented =>
    exfalso
    cases v with
    | non => cases r
    | bl _ => cases r
    | int _ => obtain ⟨t, z⟩ := r; cases z
    | str _ => obtain ⟨t, z⟩ := r; cases z
    | byt _ => obtain ⟨t, z⟩ := r; cases z
    | flt _ => obtain ⟨t, z⟩ := r; cases z
    | ref _ => cases r
    | ty _ => cases r
  | _ => exact ⟨v, H', I, r, q⟩
theorem op_own {op : Operator} (g : GOp X.K C m qual st) (hm : PySem.dunder op.info.2 = m) (F : FnAt X.prog X.w X.K X.mg X.base CX k (He.ma X.K C m) ["self", "other"] sp) (hr : Room k X.A) (hc : PySem.W.selfFirst X.K C = true)
    (hx : Passes CX X E0 := by first | exact pass0 | exact passL) : OpR X (binaryOp op) (rOwn C sp) := by
  intro pins s σ H x y v u Q I rx ry h
  obtain ⟨a, b, dx, dy, fs, gs, rfl, rfl, ha, hb, hsp⟩ := h
  cases rx
  cases ry
  obtain ⟨mA, J, _⟩ := ins_get I.hok ha
  obtain ⟨mB, J', _⟩ := ins_get I.hok hb
  obtain ⟨od, J, _⟩ := J.look
  obtain ⟨od', J', _⟩ := J'.look
  obtain ⟨mm, hF⟩ := I.fr
  subst hm
  refine PySem.W.binop_K hF I.ok.mod.kin J J'.type hc g.at_ g.fn ?_
  exact thn (run_fn (vs := [.ref a, .ref b]) F hr g.b .nil hx I (.cons rfl (.cons rfl .nil)) hsp) fun r s' q => back_of q
theorem cm_own {op : CmpOp} (g : GOp X.K C m qual st) (hm : (PySem.cmpInfo op).2.1 = m) (hop : ∀ v u, compareOp op v u = richCompare op v u) (F : FnAt X.prog X.w X.K X.mg X.base CX k (He.ma X.K C m) ["self", "other"] sp) (hr : Room k X.A)
    (hx : Passes CX X E0 := by first | exact pass0 | exact passL) : OpR X (compareOp op) (rOwn C sp) := by
  intro pins s σ H x y v u Q I rx ry h
  obtain ⟨a, b, dx, dy, fs, gs, rfl, rfl, ha, hb, hsp⟩ := h
  cases rx
  cases ry
  obtain ⟨mA, J, _⟩ := ins_get I.hok ha
  obtain ⟨mB, J', _⟩ := ins_get I.hok hb
  obtain ⟨od, J, _⟩ := J.look
  obtain ⟨od', J', _⟩ := J'.look
  obtain ⟨mm, hF⟩ := I.fr
  subst hm
  rw [hop]
  refine PySem.W.cmp_K (tb := .ref C) hr.units0 hF I.ok.mod.kin J J'.type (by simp [PySem.W.notFirst]) g.at_ g.fn ?_
  exact thn (run_fn (vs := [.ref a, .ref b]) F hr g.b .nil hx I (.cons rfl (.cons rfl .nil)) hsp) fun r s' q => back_of q
end
end My

/-! own layer: sizes -/
namespace My
open PySem PySem.Spec PyProof.Rows L2
theorem log_lt {n k : Nat} (hk : 0 < k) (h : n < 2 ^ k) : n.log2 < k := PySem.Flt.log2_lt_of hk h
theorem mulS {i j : Int} (h1 : -1000000000000000000000000000000 < i) (h2 : i < 1000000000000000000000000000000) (h3 : -1000000000000000000000000000000 < j) (h4 : j < 1000000000000000000000000000000) : CMulW i j :=
  wide_mul (a := 100) (b := 100) (Nat.lt_of_lt_of_le (m := 1000000000000000000000000000000) (by omega) (by decide +kernel)) (Nat.lt_of_lt_of_le (m := 1000000000000000000000000000000) (by omega) (by decide +kernel)) (by decide) (by decide) (by decide)
theorem divS {i j : Int} (h3 : 0 < j) (h4 : j < 1000000000000000000000000000000) : CDivW i j :=
  wide_div (b := 100) h3 (Nat.lt_of_lt_of_le (m := 1000000000000000000000000000000) (by omega) (by decide +kernel)) (by decide) (by decide)
theorem bits_le (x : Int) : Builtin.Int.intBits x ≤ x.natAbs.log2 + 1 := by
  unfold Builtin.Int.intBits
  split <;> omega
theorem pow3S {i : Int} (h1 : -1000000000000000000000000000000 < i) (h2 : i < 1000000000000000000000000000000) : CPowW i 3 := by
  have h : i.natAbs.log2 < 100 := log_lt (by decide) (Nat.lt_of_lt_of_le (m := 1000000000000000000000000000000) (by omega) (by decide +kernel))
  have b := bits_le i
  refine ⟨by decide, ?_⟩
  have e : (2 : Int) ^ 27 = 134217728 := by decide
  rw [e]
  omega
theorem powL {i j : Int} (h : decide (0 ≤ j ∧ (Builtin.Int.intBits i : Int) * j ≤ 134217728) = true) : CPowW i j := by
  have h := of_decide_eq_true h
  exact ⟨h.1, h.2⟩
/-- k * c * c + d of a draw's number -/
theorem pow3Q {b k c d : Int} (hb : 0 ≤ b) (hb2 : b < 2305843009213693952) (hk : 0 ≤ k) (hk2 : k ≤ 1000000) (hc : 0 ≤ c) (hc2 : c ≤ 1000001) (hd : 0 ≤ d) (hd2 : d ≤ 1000000) : CPowW (b + k * c * c + d) 3 := by
  have h1 : 0 ≤ k * c := Int.mul_nonneg hk hc
  have h2 : k * c ≤ 1000000 * 1000001 := Int.mul_le_mul hk2 hc2 hc (by decide)
  have h3 : 0 ≤ k * c * c := Int.mul_nonneg h1 hc
  have h4 : k * c * c ≤ 1000000 * 1000001 * 1000001 := Int.mul_le_mul h2 hc2 hc (by decide)
  exact pow3S (by omega) (by omega)
section
variable {H : Hp} {Q : VK}
/-- a remainder, told by its bounds alone -/
theorem i_modQ {a j : Int} (hj : 0 < j) (h : ∀ m : Int, 0 ≤ m → m < j → Q (.int m) H) : rI (fun _ j => 0 < j) (fun i j => V.int (i % j)) (.int a) (.int j) H Q :=
  ⟨a, j, rfl, rfl, hj, h _ (Int.emod_nonneg _ (by omega)) (Int.emod_lt_of_pos _ hj)⟩
end
theorem pot_lt {m : Int} (h0 : 0 ≤ m) (h : m < (10 ^ Int.toNat 60) ^ Int.toNat 5) : m.natAbs < 2 ^ 1000 := by
  have e : ((10 : Int) ^ Int.toNat 60) ^ Int.toNat 5 < ((2 ^ 1000 : Nat) : Int) := by decide +kernel
  have h2 : m < ((2 ^ 1000 : Nat) : Int) := Int.lt_trans h e
  generalize 2 ^ 1000 = z at h2 ⊢
  omega
theorem mul01 {m : Int} {k : Bool} (h : m.natAbs < 2 ^ 1000) : CMulW m (if k = true then 1 else 0) := wide_mul (a := 1000) (b := 1) h (by cases k <;> decide) (by decide) (by decide) (by decide)
theorem mul01_nn {m : Int} {k : Bool} (h : 0 ≤ m) : 0 ≤ m * (if k = true then 1 else 0) := by cases k <;> simp [h]
/-! ### ratios are rationals -/
theorem rat_nd (a : Int) (b : Nat) (hb : 0 < b) : ((a : Rat) / (b : Rat)).num = a / ((Nat.gcd a.natAbs b : Nat) : Int) ∧ ((a : Rat) / (b : Rat)).den = b / Nat.gcd a.natAbs b := by
  have h : (a : Rat) / (b : Rat) = mkRat a b := (Rat.mkRat_eq_div a b).symm
  rw [h]
  have hz : b ≠ 0 := by omega
  unfold mkRat
  rw [dif_neg hz, Rat.normalize_eq hz]
  exact ⟨rfl, rfl⟩
theorem rat_ndI (a b : Int) (hb : 0 < b) : ((a : Rat) / (b : Rat)).num = a / ((Nat.gcd a.natAbs b.natAbs : Nat) : Int) ∧ (((a : Rat) / (b : Rat)).den : Int) = b / ((Nat.gcd a.natAbs b.natAbs : Nat) : Int) := by
  obtain ⟨n, rfl⟩ : ∃ n : Nat, b = (n : Int) := ⟨b.toNat, by omega⟩
  have h := rat_nd a n (by omega)
  have e : ((n : Int) : Rat) = (n : Rat) := by norm_cast
  rw [e, h.1, h.2]
  simp
/-- a ratio's pair -/
abbrev rat (q : Rat) : List V := [.int q.num, .int (q.den : Int)]
theorem rat_div {a b : Int} (hb : 0 < b) : ([V.int (a / ((Nat.gcd a.natAbs b.natAbs : Nat) : Int)), V.int (b / ((Nat.gcd a.natAbs b.natAbs : Nat) : Int))] : List V) = rat ((a : Rat) / (b : Rat)) := by
  obtain ⟨h1, h2⟩ := rat_ndI a b hb
  unfold rat
  rw [h1, h2]
theorem gcd_div {a b : Int} (hb : 0 < b) (sb : b.natAbs < 2 ^ 4000) : CDivW a ((Nat.gcd a.natAbs b.natAbs : Nat) : Int) ∧ CDivW b ((Nat.gcd a.natAbs b.natAbs : Nat) : Int) := by
  have h1 : 0 < Nat.gcd a.natAbs b.natAbs := Nat.gcd_pos_of_pos_right _ (by omega)
  have h2 : Nat.gcd a.natAbs b.natAbs ≤ b.natAbs := Nat.le_of_dvd (by omega) (Nat.gcd_dvd_right _ _)
  have h3 : ((Nat.gcd a.natAbs b.natAbs : Nat) : Int).natAbs < 2 ^ 4000 := by rw [Int.natAbs_natCast]; exact Nat.lt_of_le_of_lt h2 sb
  exact ⟨wide_div (b := 4000) (by omega) h3 (by decide) (by decide), wide_div (b := 4000) (by omega) h3 (by decide) (by decide)⟩
end My

/-! own layer: ratios as rationals, core Lean alone -/
namespace My
/-- both parts below 2 ^ k -/
def Sz (k : Nat) (q : Rat) : Prop := q.num.natAbs < 2 ^ k ∧ q.den < 2 ^ k
theorem Sz.mono {j k : Nat} {q : Rat} (h : Sz j q) (hk : j ≤ k) : Sz k q := ⟨Nat.lt_of_lt_of_le h.1 (Nat.pow_le_pow_right (by decide) hk), Nat.lt_of_lt_of_le h.2 (Nat.pow_le_pow_right (by decide) hk)⟩
theorem sz_div {a : Int} {b k : Nat} (hb : 0 < b) (h1 : a.natAbs < 2 ^ k) (h2 : b < 2 ^ k) : Sz k ((a : Rat) / (b : Rat)) := by
  obtain ⟨e1, e2⟩ := rat_nd a b hb
  refine ⟨?_, ?_⟩
  · rw [e1, Int.natAbs_ediv_of_dvd (Int.ofNat_dvd_left.mpr (Nat.gcd_dvd_left _ _)), Int.natAbs_natCast]
    exact Nat.lt_of_le_of_lt (Nat.div_le_self _ _) h1
  · rw [e2]
    exact Nat.lt_of_le_of_lt (Nat.div_le_self _ _) h2
theorem sz_divI {a b : Int} {k : Nat} (hb : 0 < b) (h1 : a.natAbs < 2 ^ k) (h2 : b.natAbs < 2 ^ k) : Sz k ((a : Rat) / (b : Rat)) := by
  obtain ⟨n, rfl⟩ : ∃ n : Nat, b = (n : Int) := ⟨b.toNat, by omega⟩
  have e : ((n : Int) : Rat) = (n : Rat) := by norm_cast
  rw [e]
  exact sz_div (by omega) h1 (by simpa using h2)
theorem den_ne (p : Rat) : ((p.den : Nat) : Rat) ≠ 0 := fun z => p.den_nz (by exact_mod_cast z)
theorem den_pos (p : Rat) : 0 < p.den := Nat.pos_of_ne_zero p.den_nz
theorem num_den (p : Rat) : (p.num : Rat) / ((p.den : Nat) : Rat) = p := by
  have h := Rat.num_divInt_den p
  rw [Rat.divInt_eq_div] at h
  have e : (((p.den : Nat) : Int) : Rat) = ((p.den : Nat) : Rat) := by norm_cast
  rw [e] at h
  exact h
theorem add_div (p q : Rat) : ((p.num * (q.den : Int) + q.num * (p.den : Int) : Int) : Rat) / (((p.den : Int) * (q.den : Int) : Int) : Rat) = p + q := by
  have h1 := num_den p
  have h2 := num_den q
  have d1 := den_ne p
  have d2 := den_ne q
  have e3 : ((p.num * (q.den : Int) + q.num * (p.den : Int) : Int) : Rat) = (p.num : Rat) * (q.den : Rat) + (q.num : Rat) * (p.den : Rat) := by push_cast; rfl
  have e4 : (((p.den : Int) * (q.den : Int) : Int) : Rat) = (p.den : Rat) * (q.den : Rat) := by push_cast; rfl
  rw [e3, e4]
  grind
theorem mul_div (p q : Rat) : ((p.num * q.num : Int) : Rat) / (((p.den : Int) * (q.den : Int) : Int) : Rat) = p * q := by
  have h1 := num_den p
  have h2 := num_den q
  have d1 := den_ne p
  have d2 := den_ne q
  have e3 : ((p.num * q.num : Int) : Rat) = (p.num : Rat) * (q.num : Rat) := by push_cast; rfl
  have e4 : (((p.den : Int) * (q.den : Int) : Int) : Rat) = (p.den : Rat) * (q.den : Rat) := by push_cast; rfl
  rw [e3, e4]
  grind
theorem pos_num {p : Rat} (h : 0 < p) : 0 < p.num := by
  have := (Rat.lt_iff 0 p).mp h
  simpa using this
theorem nn_num {p : Rat} (h : 0 ≤ p) : 0 ≤ p.num := Rat.num_nonneg.mpr h
theorem div_div {p q : Rat} (hq : 0 < q) : ((p.num * (q.den : Int) : Int) : Rat) / (((p.den : Int) * q.num : Int) : Rat) = p / q := by
  have h1 := num_den p
  have h2 := num_den q
  have d1 := den_ne p
  have d2 := den_ne q
  have e3 : ((p.num * (q.den : Int) : Int) : Rat) = (p.num : Rat) * (q.den : Rat) := by push_cast; rfl
  have e4 : (((p.den : Int) * q.num : Int) : Rat) = (p.den : Rat) * (q.num : Rat) := by push_cast; rfl
  have d3 : (q.num : Rat) ≠ 0 := fun z => by
    have := pos_num hq
    have z' : q.num = 0 := by exact_mod_cast z
    omega
  rw [e3, e4]
  grind
theorem le_nd (p q : Rat) : (q ≤ p) ↔ p.num * (q.den : Int) ≥ q.num * (p.den : Int) := Rat.le_iff q p
theorem abs_mul_lt {a b : Int} {j k : Nat} (h1 : a.natAbs < 2 ^ j) (h2 : b.natAbs < 2 ^ k) : (a * b).natAbs < 2 ^ (j + k) := by
  rw [Int.natAbs_mul, Nat.pow_add]
  exact Nat.mul_lt_mul'' h1 h2
theorem abs_add_lt {a b : Int} {j : Nat} (h1 : a.natAbs < 2 ^ j) (h2 : b.natAbs < 2 ^ j) : (a + b).natAbs < 2 ^ (j + 1) := by
  rw [Nat.pow_succ]
  have := Int.natAbs_add_le a b
  omega
section
variable {j k : Nat} {p q : Rat}
theorem Sz.den (h : Sz j p) : ((p.den : Nat) : Int).natAbs < 2 ^ j := by rw [Int.natAbs_natCast]; exact h.2
theorem dd_pos (p q : Rat) : (0 : Int) < (p.den : Int) * (q.den : Int) := Int.mul_pos (by have := den_pos p; omega) (by have := den_pos q; omega)
theorem dn_pos (p : Rat) (h : 0 < q) : (0 : Int) < (p.den : Int) * q.num := Int.mul_pos (by have := den_pos p; omega) (pos_num h)
theorem Sz.add (h : Sz j p) (h' : Sz j q) : Sz (j + j + 1) (p + q) := by
  rw [← add_div]
  exact sz_divI (dd_pos p q) (abs_add_lt (abs_mul_lt h.1 h'.den) (abs_mul_lt h'.1 h.den)) (Nat.lt_of_lt_of_le (abs_mul_lt h.den h'.den) (Nat.pow_le_pow_right (by decide) (by omega)))
theorem Sz.mul (h : Sz j p) (h' : Sz j q) : Sz (j + j) (p * q) := by
  rw [← mul_div]
  exact sz_divI (dd_pos p q) (abs_mul_lt h.1 h'.1) (abs_mul_lt h.den h'.den)
theorem Sz.div (h : Sz j p) (h' : Sz j q) (hq : 0 < q) : Sz (j + j) (p / q) := by
  rw [← div_div hq]
  exact sz_divI (dn_pos p hq) (abs_mul_lt h.1 h'.den) (abs_mul_lt h.den h'.1)
end
end My

/-! own layer, 3: what the laws' own helpers promise -/
namespace My
open PySem PySem.Spec PyProof.Rows L2
/-- a pot at p, of at most n draws -/
def Pot (H : Hp) (p : Addr) (n : Int) : Prop := ∃ a b c : Int, H p = some (.lst [.int a, .int b, .int c]) ∧ 0 ≤ a ∧ 0 ≤ b ∧ b < 2305843009213693952 ∧ 0 ≤ c ∧ c ≤ n
def spTake : Sp := fun vs H Q _ => ∃ (p : Addr) (u n : Int), vs = [.ref p, .int u] ∧ Pot H p n ∧ n < 1000000 ∧ 0 < u ∧ u < 1000000000 ∧ ∀ (r : Int) (H' : Hp), 0 ≤ r → r < u → Pot H' p (n + 1) → But p H H' → Q (.int r) H'
def spOf (K : PySem.W.Frag) : Sp := fun vs H Q _ => ∃ (p q : Addr) (xs : List V) (n : Int), vs = [.ref p, .ref q] ∧ Pot H p n ∧ n < 1000000 ∧ q ≠ p ∧ SqL K H q xs ∧ 0 < xs.length ∧ xs.length < 1000000 ∧
  ∀ (v : V) (H' : Hp), v ∈ xs → Pot H' p (n + 1) → But p H H' → Q v H'
def spCells (K : PySem.W.Frag) : Sp := fun vs H Q _ => ∃ (a : Addr) (ns : List Int) (m : Int), vs = [.ref a, .int m] ∧ SqL K H a (ns.map V.int) ∧ ns.length ≤ 63 ∧ m ≤ 100 ∧
  ∀ (q : Addr) (H' : Hp) (j : Nat), j ≤ 100 → Same H H' → H q = none → H' q = some (.lst (rgV 0 j)) → Q (.ref q) H'
def spPot (K : PySem.W.Frag) : Sp := fun vs H Q _ => ∃ (a : Addr) (ns : List Int) (i : Int), vs = [.ref a, .int i] ∧ SqL K H a (ns.map V.int) ∧ 0 ≤ i ∧ i ≤ 100 ∧
  ∀ (p : Addr) (H' : Hp), Same H H' → H p = none → Pot H' p 0 → Q (.ref p) H'
def spCommon : Sp := fun vs H Q _ => ∃ a b : Int, vs = [.int a, .int b] ∧ Q (.int ((Nat.gcd a.natAbs b.natAbs : Nat) : Int)) H
def spPair : Sp := fun vs H Q _ => ∃ a b : Int, vs = [.int a, .int b] ∧ 0 < b ∧ a.natAbs < 2 ^ 4000 ∧ b.natAbs < 2 ^ 4000 ∧
  ∀ (p : Addr) (H' : Hp), Same H H' → H p = none → H' p = some (.tup (rat ((a : Rat) / b))) → Q (.ref p) H'
end My

/-! own layer, 4: ratios and sources -/
namespace My
open PySem PySem.Spec PyProof.Rows L2
section
variable {K : PySem.W.Frag} {H H' : Hp} {a p : Addr} {xs : List V}
theorem tyT (h : SqT K H a xs) : TyX K H (.ref a) (.type "tuple") := by
  rcases h with (h | ⟨o, h⟩) | ⟨o, its, n, hk, hc, _⟩
  · exact .base (.tup h)
  · exact .fTuple h
  · exact .kTuple hk hc
/-- a list that changes is no tuple that is read -/
theorem seqT_but {l : List V} (hp : H p = some (.lst l)) (B : But p H H') (h : SqT K H a xs) : SqT K H' a xs := by
  rcases h with (h | ⟨o, h⟩) | h
  · exact .inl (.inl (B _ _ (fun z => by rw [z, hp] at h; cases h) h))
  · exact .inl (.inr ⟨o, B _ _ (fun z => by rw [z, hp] at h; cases h) h⟩)
  · exact .inr h
theorem Pot.but {n : Int} (hP : Pot H p n) (B : But p H H') (h : SqT K H a xs) : SqT K H' a xs := by
  obtain ⟨_, _, _, hp, _⟩ := hP
  exact seqT_but hp B h
theorem Pot.mono {n m : Int} (hP : Pot H p n) (h : n ≤ m) : Pot H p m := by
  obtain ⟨a, b, c, hp, h1, h2, h3, h4, h5⟩ := hP
  exact ⟨a, b, c, hp, h1, h2, h3, h4, Int.le_trans h5 h⟩
theorem Pot.same {n : Int} (hP : Pot H p n) (S : Same H H') : Pot H' p n := by
  obtain ⟨a, b, c, hp, h⟩ := hP
  exact ⟨a, b, c, S _ _ hp, h⟩
end
section
variable {K : PySem.W.Frag} {H : Hp} {Q : VK} {b : Bool}
theorem i_isiI {i : Int} {n : String} (e : kitB "int" n = some b) (h : Q (.bl b) H) : rIsi K [.int i, .ty n] H Q := ⟨_, _, _, _, b, rfl, .ty n, .base (.int i), kit_ty e, h⟩
theorem i_isiT {a : Addr} {xs : List V} {n : String} (hx : SqT K H a xs) (e : kitB "tuple" n = some b) (h : Q (.bl b) H) : rIsi K [.ref a, .ty n] H Q := ⟨_, _, _, _, b, rfl, .ty n, tyT hx, kit_ty e, h⟩
theorem i_tupg {n : Nat} {t : TGs} {a : Addr} {xs : List V} {σ : L2.St} {R : L2.St → Hp → Prop} (hx : SqT K H a xs) (hl : xs.length = n) (h : t xs σ H R) : gTup K n t (.ref a) σ H R := ⟨a, xs, rfl, hx, hl, h⟩
theorem i_gcons {t : TG} {u : TGs} {v : V} {r : List V} {σ : L2.St} {R : L2.St → Hp → Prop} (h : t v σ H fun σ' H' => u r σ' H' R) : gCons t u (v :: r) σ H R := ⟨v, r, rfl, h⟩
theorem i_gnil {σ : L2.St} {R : L2.St → Hp → Prop} (h : R σ H) : gNil [] σ H R := ⟨rfl, h⟩
end
/-- one value, an integer -/
def spIsInt : Sp := fun vs H Q _ => ∃ i : Int, vs = [.int i] ∧ Q (.bl true) H
def spIsRatio (K : PySem.W.Frag) : Sp := fun vs H Q _ => ∃ (a : Addr) (p : Rat), vs = [.ref a] ∧ SqT K H a (rat p) ∧ 0 ≤ p ∧ Q (.bl true) H
/-- two ratios and what comes of them: a new ratio -/
def spBin (K : PySem.W.Frag) (pre : Rat → Rat → Prop) (f : Rat → Rat → Rat) : Sp := fun vs H Q _ => ∃ (a b : Addr) (p q : Rat) (j : Nat), vs = [.ref a, .ref b] ∧ SqT K H a (rat p) ∧ SqT K H b (rat q) ∧ Sz j p ∧ Sz j q ∧ j ≤ 1900 ∧ pre p q ∧
  ∀ (r : Addr) (H' : Hp), Same H H' → H r = none → H' r = some (.tup (rat (f p q))) → Q (.ref r) H'
abbrev spPlus (K : PySem.W.Frag) : Sp := spBin K (fun _ _ => True) fun p q => p + q
abbrev spTimes (K : PySem.W.Frag) : Sp := spBin K (fun _ _ => True) fun p q => p * q
abbrev spOver (K : PySem.W.Frag) : Sp := spBin K (fun _ q => 0 < q) fun p q => p / q
/-- a comparison of two ratios -/
def spCmp (K : PySem.W.Frag) (f : Rat → Rat → Bool) : Sp := fun vs H Q _ => ∃ (a b : Addr) (p q : Rat) (j : Nat), vs = [.ref a, .ref b] ∧ SqT K H a (rat p) ∧ SqT K H b (rat q) ∧ Sz j p ∧ Sz j q ∧ j ≤ 1900 ∧ Q (.bl (f p q)) H
abbrev spAtLeast (K : PySem.W.Frag) : Sp := spCmp K fun p q => decide (q ≤ p)
theorem mulZ {i j : Int} {a : Nat} (h1 : i.natAbs < 2 ^ a) (h2 : j.natAbs < 2 ^ a) (h : a ≤ 100000) : CMulW i j :=
  wide_mul (a := a + 1) (b := a + 1) (Nat.lt_of_lt_of_le h1 (Nat.pow_le_pow_right (by decide) (by omega))) (Nat.lt_of_lt_of_le h2 (Nat.pow_le_pow_right (by decide) (by omega))) (by omega) (by omega) (by omega)
theorem pow_le_4000 {n j : Nat} (h : n < 2 ^ j) (hj : j ≤ 4000) : n < 2 ^ 4000 := Nat.lt_of_lt_of_le h (Nat.pow_le_pow_right (by decide) hj)
/-! ### sources -/
def srcF (v o : Addr) : List (Str × V) := [("_volts", .ref v), ("_ohms", .ref o)]
theorem srcF_eq (v o : Addr) : putF "_ohms" (.ref o) (putF "_volts" (.ref v) []) = srcF v o := by
  show (if ("_volts" : Str) = "_ohms" then _ else _ :: _) = _
  rw [if_neg (by decide +kernel)]
  rfl
theorem srcF_v (v o : Addr) : (srcF v o).lookup ("_volts" : Str) = some (.ref v) := rfl
theorem srcF_o (v o : Addr) : (srcF v o).lookup ("_ohms" : Str) = some (.ref o) := rfl
theorem srcF_no {v o : Addr} {m : Str} (h1 : ¬ m = "_volts") (h2 : ¬ m = "_ohms") : (srcF v o).lookup m = none := by
  unfold srcF
  rw [List.lookup_cons, List.lookup_cons, beq_false_of_ne h1, beq_false_of_ne h2]
  rfl
/-- a source of these volts and ohms stands at s -/
def SrcAt (K : PySem.W.Frag) (C : Addr) (H : Hp) (s : Addr) (v r : Rat) : Prop := ∃ dx a b, H s = some (.ins C dx (srcF a b)) ∧ SqT K H a (rat v) ∧ SqT K H b (rat r) ∧ 0 ≤ v ∧ 0 ≤ r
section
variable {K : PySem.W.Frag} {C : Addr} {H H' : Hp} {s p : Addr} {v r : Rat}
theorem SrcAt.same (h : SrcAt K C H s v r) (S : Same H H') : SrcAt K C H' s v r := by
  obtain ⟨dx, a, b, h1, h2, h3, h4⟩ := h
  exact ⟨dx, a, b, S _ _ h1, L2.Same.seqT S h2, L2.Same.seqT S h3, h4⟩
theorem SrcAt.but {n : Int} (h : SrcAt K C H s v r) (hP : Pot H p n) (B : But p H H') : SrcAt K C H' s v r := by
  obtain ⟨dx, a, b, h1, h2, h3, h4⟩ := h
  obtain ⟨x, y, z, hp, _⟩ := id hP
  exact ⟨dx, a, b, B _ _ (fun e => by rw [e, hp] at h1; cases h1) h1, hP.but B h2, hP.but B h3, h4⟩
end
/-- the volts, the ohms of a source -/
def spVolts (C : Addr) : Sp := fun vs H Q _ => ∃ s dx a b, vs = [.ref s] ∧ H s = some (.ins C dx (srcF a b)) ∧ Q (.ref a) H
def spOhms (C : Addr) : Sp := fun vs H Q _ => ∃ s dx a b, vs = [.ref s] ∧ H s = some (.ins C dx (srcF a b)) ∧ Q (.ref b) H
def spSrcInit (K : PySem.W.Frag) (C : Addr) : Sp := fun vs H Q _ => ∃ s dx a b v r, vs = [.ref s, .ref a, .ref b] ∧ H s = some (.ins C dx []) ∧ SqT K H a (rat v) ∧ SqT K H b (rat r) ∧ 0 ≤ v ∧ 0 ≤ r ∧
  ∀ H', But s H H' → H' s = some (.ins C dx (srcF a b)) → Q .non H'
/-- 1 + r * g -/
def spWeak (K : PySem.W.Frag) : Sp := fun vs H Q _ => ∃ (a b : Addr) (r g : Rat) (j : Nat), vs = [.ref a, .ref b] ∧ SqT K H a (rat r) ∧ SqT K H b (rat g) ∧ Sz j r ∧ Sz j g ∧ j ≤ 400 ∧ 0 ≤ r ∧ 0 ≤ g ∧
  ∀ (p : Addr) (H' : Hp), Same H H' → H p = none → H' p = some (.tup (rat (1 + r * g))) → Q (.ref p) H'
def spAt (K : PySem.W.Frag) (C : Addr) : Sp := fun vs H Q _ => ∃ (s b : Addr) (v r g : Rat) (j : Nat), vs = [.ref s, .ref b] ∧ SrcAt K C H s v r ∧ SqT K H b (rat g) ∧ Sz j v ∧ Sz j r ∧ Sz j g ∧ j ≤ 400 ∧ 0 ≤ g ∧
  ∀ (p : Addr) (H' : Hp), Same H H' → H p = none → H' p = some (.tup (rat (v / (1 + r * g)))) → Q (.ref p) H'
def spUnder (K : PySem.W.Frag) (C : Addr) : Sp := fun vs H Q _ => ∃ (s b : Addr) (v r g : Rat) (j : Nat), vs = [.ref s, .ref b] ∧ SrcAt K C H s v r ∧ SqT K H b (rat g) ∧ Sz j v ∧ Sz j r ∧ Sz j g ∧ j ≤ 400 ∧ 0 ≤ g ∧
  ∀ (p : Addr) (H' : Hp), Same H H' → H p = none → SrcAt K C H' p (v / (1 + r * g)) (r / (1 + r * g)) → Q (.ref p) H'
/-- whether one source covers another one -/
def strong (v r w s : Rat) : Bool := decide (w ≤ v) && decide (w * r ≤ v * s)
def spSrcCmp (K : PySem.W.Frag) (C : Addr) (f : Rat → Rat → Rat → Rat → Bool) : Sp := fun vs H Q _ => ∃ (s t : Addr) (v r w u : Rat) (j : Nat), vs = [.ref s, .ref t] ∧ SrcAt K C H s v r ∧ SrcAt K C H t w u ∧ Sz j v ∧ Sz j r ∧ Sz j w ∧ Sz j u ∧ j ≤ 800 ∧
  ∀ H', Same H H' → Q (.bl (f v r w u)) H'
/-- what isinstance asks of the class of an instance -/
structure InsC (K : PySem.W.Frag) (C : Addr) : Prop where
  ha : PySem.W.findIn K (.ref C) "__class__" = some (some (.builtin "object.__class__"))
  hn : PySem.W.specialIn K (.builtin "object.__class__") "__get__" = some (some (.builtin "getset_descriptor.__get__"))
  ht : PySem.W.takesIn K (.builtin "object.__class__") = some true
  hm : PySem.W.mroIn K C (.type "object") = some true
theorem i_isiS {K : PySem.W.Frag} {C : Addr} {H : Hp} {s dx : Addr} {fs : List (Str × V)} {Q : VK} (h : H s = some (.ins C dx fs)) (c : Cls K C) (y : InsC K C) (k : Q (.bl true) H) : rIsi K [.ref s, .ref C] H Q :=
  ⟨_, _, _, _, true, rfl, .own C, .base (.ins h c y.ha y.hn y.ht y.hm), by unfold PySem.W.kitOne; rw [if_pos (beq_self_eq_true _)], k⟩
/-! ### fields, properties, methods, makes: named, so that a step finds them -/
def FldQ (K : PySem.W.Frag) (f : Str) (x : V) (H : Hp) (Q : VK) : Prop := ∃ a C dx fs v, x = .ref a ∧ H a = some (.ins C dx fs) ∧ Cls K C ∧ NoAttr K C f ∧ fs.lookup f = some v ∧ Q v H
def PropQ (C : Addr) (sp : Sp) (dvs : List V) (E : XK) (x : V) (H : Hp) (Q : VK) : Prop := ∃ a dx fs, x = .ref a ∧ H a = some (.ins C dx fs) ∧ sp (.ref a :: dvs) H Q E
def MethQ (C : Addr) (m : Str) (sp : Sp) (dvs : List V) (E : XK) (t : TA) (σ : L2.St) (x : V) (H : Hp) (Q : VK) : Prop := ∃ a dx fs, x = .ref a ∧ H a = some (.ins C dx fs) ∧ fs.lookup m = none ∧ t σ H fun vs H2 => sp (x :: (vs ++ dvs)) H2 Q E
def MakeQ (C : Addr) (sp : Sp) (dvs : List V) (E : XK) (vs : List V) (H : Hp) (Q : VK) : Prop := ∀ x dx, H x = none → H dx = none → dx ≠ x → sp (.ref x :: (vs ++ dvs)) (upd (upd H dx (.own x)) x (.ins C dx [])) (fun v H2 => v = .non ∧ Q (.ref x) H2) E
section
variable {K : PySem.W.Frag} {σ : L2.St} {H : Hp} {ta : TE} {t : TA} {Q : VK} {C s a b dx : Addr} {sp : Sp} {dvs : List V} {E : XK} {m f : Str} {D : Ends} {v r : Rat} {te : TE}
theorem i_fld0 (h : ta σ H fun x H1 => FldQ K f x H1 Q) : tFld K ta f σ H Q := h
theorem i_prop (h : ta σ H fun x H1 => PropQ C sp dvs E x H1 Q) : tProp C sp dvs E ta σ H Q := h
theorem i_meth (h : ta σ H fun x H1 => MethQ C m sp dvs E t σ x H1 Q) : tMeth C m sp dvs E ta t σ H Q := h
theorem i_make (h : t σ H fun vs H1 => MakeQ C sp dvs E vs H1 Q) : tMake C sp dvs E t σ H Q := h
theorem i_fv (h : H s = some (.ins C dx (srcF a b))) (c : Cls K C) (n : NoAttr K C "_volts") (k : Q (.ref a) H) : FldQ K "_volts" (.ref s) H Q := ⟨s, C, dx, _, _, rfl, h, c, n, srcF_v a b, k⟩
theorem i_fo (h : H s = some (.ins C dx (srcF a b))) (c : Cls K C) (n : NoAttr K C "_ohms") (k : Q (.ref b) H) : FldQ K "_ohms" (.ref s) H Q := ⟨s, C, dx, _, _, rfl, h, c, n, srcF_o a b, k⟩
theorem i_pv (h : H s = some (.ins C dx (srcF a b))) (k : Q (.ref a) H) : PropQ C (spVolts C) [] E (.ref s) H Q := ⟨s, dx, _, rfl, h, s, dx, a, b, rfl, h, k⟩
theorem i_po (h : H s = some (.ins C dx (srcF a b))) (k : Q (.ref b) H) : PropQ C (spOhms C) [] E (.ref s) H Q := ⟨s, dx, _, rfl, h, s, dx, a, b, rfl, h, k⟩
theorem i_me (h : H s = some (.ins C dx (srcF a b))) (h1 : ¬ m = "_volts") (h2 : ¬ m = "_ohms") (k : t σ H fun vs H2 => sp (.ref s :: (vs ++ dvs)) H2 Q E) : MethQ C m sp dvs E t σ (.ref s) H Q := ⟨s, dx, _, rfl, h, srcF_no h1 h2, k⟩
theorem i_mkS (ha : SqT K H a (rat v)) (hb : SqT K H b (rat r)) (hv : 0 ≤ v) (hr : 0 ≤ r) (k : ∀ s H2, Same H H2 → H s = none → SrcAt K C H2 s v r → Q (.ref s) H2) : MakeQ C (spSrcInit K C) [] E [.ref a, .ref b] H Q := by
  intro x dx hx hd hne
  have S : Same H (upd (upd H dx (.own x)) x (.ins C dx [])) := fun c o e => by
    rw [upd_ne (ne_of_none e hx), upd_ne (ne_of_none e hd)]
    exact e
  refine ⟨x, dx, a, b, v, r, rfl, upd_same, L2.Same.seqT S ha, L2.Same.seqT S hb, hv, hr, fun H' B e => ⟨rfl, ?_⟩⟩
  have S2 : Same H H' := fun c o e => B c o (ne_of_none e hx) (S c o e)
  exact k x H' S2 hx ⟨dx, a, b, e, L2.Same.seqT S2 ha, L2.Same.seqT S2 hb, hv, hr⟩
/-- self.f = e -/
theorem i_sfld (h : te σ H fun y H1 => ta σ H1 fun x H2 => ∃ a C dx fs, x = .ref a ∧ H2 a = some (.ins C dx fs) ∧ Cls K C ∧ NoAttr K C f ∧ fs.length < 1000 ∧ D.nx σ (upd H2 a (.ins C dx (putF f y fs)))) : sFld K ta te f D σ H := h
theorem one_pos {r g : Rat} (hr : 0 ≤ r) (hg : 0 ≤ g) : 0 < 1 + r * g := by
  have := Rat.mul_nonneg hr hg
  grind
theorem div_nn {p q : Rat} (hp : 0 ≤ p) (hq : 0 < q) : 0 ≤ p / q := by
  rw [Rat.div_def]
  exact Rat.mul_nonneg hp (Rat.le_of_lt (Rat.inv_pos.mpr hq))
theorem sz_one {j : Nat} (h : 0 < j) : Sz j 1 := ⟨Nat.one_lt_pow (by omega) (by decide), Nat.one_lt_pow (by omega) (by decide)⟩
theorem Sz.weak {j : Nat} {r g : Rat} (h1 : Sz j r) (h2 : Sz j g) : Sz (2 * j + 2 * j + 3) (1 + r * g) := by
  have a := (h1.mul h2).mono (k := 2 * j + 1) (by omega)
  exact ((sz_one (j := 2 * j + 1) (by omega)).add a).mono (by omega)
end
end My

/-! own layer: what is walked, list comprehensions -/
namespace My
open PySem PySem.Spec PyProof.Rows L2
def LcQ (J : It) (g : TG) (tt : TT) (te : TE) (vs : List Nat) (σ : L2.St) (H1 : Hp) (Q : VK) : Prop := ∀ D, H1 D = none → ∃ W : Nat → Nat → Hp → Prop, (∃ m, W 0 m (upd H1 D (.lst []))) ∧ ∀ i m H, W i m H →
  (J.stop i H ∧ Q (.ref D) H) ∨ (J.go i H ∧ ∃ Nx : Hp → Prop, (∀ H', Nx H' → ∃ m', m' < m ∧ W (i + 1) m' H') ∧ ∀ x H', J.yld i H x H' → g x (wipe σ vs) H' fun σ2 H2 => wipe σ2 vs = wipe σ vs ∧ tt σ2 H2 fun b H3 =>
    if b = true then te σ2 H3 fun y H4 => ∃ acc, H4 D = some (.lst acc) ∧ acc.length < sizeLine ∧ Nx (upd H4 D (.lst (acc ++ [y]))) else Nx H3)
def ForQ (J : It) (g : TG) (tb : TS) (D : Ends) (σ : L2.St) (H1 : Hp) : Prop := ∃ W : Nat → Nat → L2.St → Hp → Prop, (∃ m, W 0 m σ H1) ∧ ∀ i m σ H, W i m σ H →
  (J.stop i H ∧ D.nx σ H) ∨ (J.go i H ∧ ∃ N : L2.St → Hp → Prop, (∀ σ' H', N σ' H' → ∃ m', m' < m ∧ W (i + 1) m' σ' H') ∧ ∀ x H', J.yld i H x H' → g x σ H' fun σ2 H2 => tb { D with nx := N, ct := N, bk := D.nx } σ2 H2)
def RngQ (vs : List V) (H : Hp) (R : It → Hp → Prop) : Prop := ∃ j : Int, vs = [.int j] ∧ -(2 ^ 62) ≤ j ∧ j < 2 ^ 62 ∧ R (Itr 0 j.toNat) H
def WlkL (K : PySem.W.Frag) (x : V) (H : Hp) (R : It → Hp → Prop) : Prop := ∃ a, x = .ref a ∧ (∃ xs, SqL K H a xs) ∧ R (Itl K a) H
def WlkT (K : PySem.W.Frag) (x : V) (H : Hp) (R : It → Hp → Prop) : Prop := ∃ a, x = .ref a ∧ (∃ xs, SqT K H a xs) ∧ R (Itt K a) H
section
variable {K : PySem.W.Frag} {σ : L2.St} {H : Hp} {wi : TI} {g : TG} {tt : TT} {te tl : TE} {tb : TS} {ta : TA} {vs : List Nat} {Q : VK} {D : Ends} {R : It → Hp → Prop} {a : Addr} {xs : List V}
theorem i_lc (h : wi σ H fun J H1 => LcQ J g tt te vs σ H1 Q) : tLc wi g tt te vs σ H Q := h
theorem i_for (h : wi σ H fun J H1 => ForQ J g tb D σ H1) : tFor wi g tb D σ H := h
theorem i_rng (h : ta σ H fun vs H1 => RngQ vs H1 R) : iRng1 ta σ H R := h
theorem i_rngv {j : Int} (h1 : -(2 ^ 62) ≤ j) (h2 : j < 2 ^ 62) (h : R (Itr 0 j.toNat) H) : RngQ [.int j] H R := ⟨j, rfl, h1, h2, h⟩
theorem i_wl (h : tl σ H fun x H1 => WlkL K x H1 R) : iList K tl σ H R := h
theorem i_wt (h : tl σ H fun x H1 => WlkT K x H1 R) : iTup K tl σ H R := h
theorem i_wlv (hl : SqL K H a xs) (h : R (Itl K a) H) : WlkL K (.ref a) H R := ⟨a, rfl, ⟨xs, hl⟩, h⟩
theorem i_wtv (hl : SqT K H a xs) (h : R (Itt K a) H) : WlkT K (.ref a) H R := ⟨a, rfl, ⟨xs, hl⟩, h⟩
/-- what a turn's element is to reach -/
def TurnP (Pv : Addr → Nat → Hp → List V → Prop) (A : Addr) (i : Nat) : VK := fun y H4 => ∃ acc, H4 A = some (.lst acc) ∧ acc.length < sizeLine ∧
  ∃ acc', acc'.length = i + 1 ∧ upd H4 A (.lst (acc ++ [y])) A = some (.lst acc') ∧ Pv A (i + 1) (upd H4 A (.lst (acc ++ [y]))) acc'
theorem turn_end {Pv : Addr → Nat → Hp → List V → Prop} {A : Addr} {i : Nat} {acc : List V} {y : V} (h : H A = some (.lst acc)) (hl : acc.length = i) (hi : i < 1000000) (k : ∀ H5, But A H H5 → H5 A = some (.lst (acc ++ [y])) → Pv A (i + 1) H5 (acc ++ [y])) : TurnP Pv A i y H :=
  ⟨acc, h, by rw [hl]; exact Nat.lt_trans hi (by decide), acc ++ [y], by rw [List.length_append, hl]; rfl, upd_same, k _ But.upd upd_same⟩
theorem lcq_range {lo : Int} {n : Nat} (Pv : Addr → Nat → Hp → List V → Prop) (h0 : ∀ A H', Same H H' → H A = none → H' A = some (.lst []) → Pv A 0 H' [])
    (hs : ∀ A i H' acc, i < n → acc.length = i → H' A = some (.lst acc) → Pv A i H' acc → g (.int (lo + i)) (wipe σ vs) H' fun σ2 H2 => wipe σ2 vs = wipe σ vs ∧ te σ2 H2 (TurnP Pv A i))
    (hd : ∀ A H' acc, acc.length = n → H' A = some (.lst acc) → Pv A n H' acc → Q (.ref A) H') : LcQ (Itr lo n) g tYes te vs σ H Q := by
  intro A hA
  refine lc_range (fun i H' => ∃ acc, acc.length = i ∧ H' A = some (.lst acc) ∧ Pv A i H' acc) ⟨[], rfl, upd_same, h0 A _ (fun b u e => by rw [upd_ne (ne_of_none e hA)]; exact e) hA upd_same⟩ ?_ (fun H' ⟨acc, h1, h2, h3⟩ => hd A H' acc h1 h2 h3)
  rintro i H' hi ⟨acc, hl, hA', hP⟩
  exact hs A i H' acc hi hl hA' hP
theorem lcq_list {xs : List V} {a : Addr} (Pv : Addr → Nat → Hp → List V → Prop) (h0 : ∀ A H', Same H H' → H A = none → H' A = some (.lst []) → Pv A 0 H' []) (hl : ∀ A i H' acc, H' A = some (.lst acc) → Pv A i H' acc → SqL K H' a xs)
    (hs : ∀ A i x H' acc, xs[i]? = some x → acc.length = i → H' A = some (.lst acc) → Pv A i H' acc → g x (wipe σ vs) H' fun σ2 H2 => wipe σ2 vs = wipe σ vs ∧ te σ2 H2 (TurnP Pv A i))
    (hd : ∀ A H' acc, acc.length = xs.length → H' A = some (.lst acc) → Pv A xs.length H' acc → Q (.ref A) H') : LcQ (Itl K a) g tYes te vs σ H Q := by
  intro A hA
  refine lc_list (xs := xs) (fun i H' => ∃ acc, acc.length = i ∧ H' A = some (.lst acc) ∧ Pv A i H' acc) ⟨[], rfl, upd_same, h0 A _ (fun b u e => by rw [upd_ne (ne_of_none e hA)]; exact e) hA upd_same⟩ (fun i H' _ ⟨acc, h1, h2, h3⟩ => hl A i H' acc h2 h3) ?_ (fun H' ⟨acc, h1, h2, h3⟩ => hd A H' acc h1 h2 h3)
  rintro i x H' hx ⟨acc, hl, hA', hP⟩
  exact hs A i x H' acc hx hl hA' hP
theorem lcq_tup {xs : List V} {a : Addr} (Pv : Addr → Nat → Hp → List V → Prop) (h0 : ∀ A H', Same H H' → H A = none → H' A = some (.lst []) → Pv A 0 H' []) (hl : ∀ A i H' acc, H' A = some (.lst acc) → Pv A i H' acc → SqT K H' a xs)
    (hs : ∀ A i x H' acc, xs[i]? = some x → acc.length = i → H' A = some (.lst acc) → Pv A i H' acc → g x (wipe σ vs) H' fun σ2 H2 => wipe σ2 vs = wipe σ vs ∧ te σ2 H2 (TurnP Pv A i))
    (hd : ∀ A H' acc, acc.length = xs.length → H' A = some (.lst acc) → Pv A xs.length H' acc → Q (.ref A) H') : LcQ (Itt K a) g tYes te vs σ H Q := by
  intro A hA
  refine lc_tup (xs := xs) (fun i H' => ∃ acc, acc.length = i ∧ H' A = some (.lst acc) ∧ Pv A i H' acc) ⟨[], rfl, upd_same, h0 A _ (fun b u e => by rw [upd_ne (ne_of_none e hA)]; exact e) hA upd_same⟩ (fun i H' _ ⟨acc, h1, h2, h3⟩ => hl A i H' acc h2 h3) ?_ (fun H' ⟨acc, h1, h2, h3⟩ => hd A H' acc h1 h2 h3)
  rintro i x H' hx ⟨acc, hl, hA', hP⟩
  exact hs A i x H' acc hx hl hA' hP
theorem forq_list {K : PySem.W.Frag} {a : Addr} {xs : List V} {g : TG} {tb : TS} {D : Ends} {σ : L2.St} {H : Hp} (Pv : Nat → L2.St → Hp → Prop) (h0 : Pv 0 σ H) (hl : ∀ i σ H, i ≤ xs.length → Pv i σ H → SqL K H a xs)
    (hs : ∀ i x σ H, xs[i]? = some x → Pv i σ H → g x σ H fun σ2 H2 => tb { D with nx := Pv (i + 1), ct := Pv (i + 1), bk := D.nx } σ2 H2) (hd : ∀ σ H, Pv xs.length σ H → D.nx σ H) : ForQ (Itl K a) g tb D σ H := for_list Pv h0 hl hs hd
theorem forq_tup {K : PySem.W.Frag} {a : Addr} {xs : List V} {g : TG} {tb : TS} {D : Ends} {σ : L2.St} {H : Hp} (Pv : Nat → L2.St → Hp → Prop) (h0 : Pv 0 σ H) (hl : ∀ i σ H, i ≤ xs.length → Pv i σ H → SqT K H a xs)
    (hs : ∀ i x σ H, xs[i]? = some x → Pv i σ H → g x σ H fun σ2 H2 => tb { D with nx := Pv (i + 1), ct := Pv (i + 1), bk := D.nx } σ2 H2) (hd : ∀ σ H, Pv xs.length σ H → D.nx σ H) : ForQ (Itt K a) g tb D σ H := for_tup Pv h0 hl hs hd
/-! ### all, any; unpacking a list; three at once -/
theorem i_all {bs : List Bool} {a : Addr} (hl : SqL K H a (bs.map V.bl)) (h : Q (.bl (bs.all id)) H) : rAll K [.ref a] H Q := ⟨a, bs, rfl, hl, h⟩
theorem i_any {bs : List Bool} {a : Addr} (hl : SqL K H a (bs.map V.bl)) (h : Q (.bl (bs.any id)) H) : rAny K [.ref a] H Q := ⟨a, bs, rfl, hl, h⟩
theorem i_unl {n : Nat} {t : TGs} {a : Addr} {xs : List V} {σ : L2.St} {R : L2.St → Hp → Prop} (hx : SqL K H a xs) (hl : xs.length = n) (h : t xs σ H R) : gUnl K n t (.ref a) σ H R := ⟨a, xs, rfl, hx, hl, h⟩
theorem i_par3 {i j l : Nat} {ta : TA} (h : ta σ H fun vs H1 => ∃ u v w, vs = [u, v, w] ∧ D.nx (((σ.set i (some u)).set j (some v)).set l (some w)) H1) : tPar3 i j l ta D σ H := h
theorem i_three {x y z : V} {P : V → V → V → Prop} (h : P x y z) : ∃ u v w, [x, y, z] = [u, v, w] ∧ P u v w := ⟨x, y, z, rfl, h⟩
end
end My

/-! what the helpers of one law promise: sources compared -/
namespace My
open PySem PySem.Spec PyProof.Rows L2
section
variable {X : Cx}
def rReprB : List V → Hp → VK → Prop := fun xs H Q => ∃ b, xs = [.bl b] ∧ Q (.str (if b then "True" else "False")) H
theorem op_eqK {K : PySem.W.Frag} (hu : X.A.units + 64 < cLine) (hK : X.K = K) : OpR X (compareOp .Eq) (rEqD K) := by
  subst hK
  exact op_eqD hu
theorem pg_tupK {K : PySem.W.Frag} {es : List Expr} {i n : Nat} {pos : Pos} {t : TGs} (hc : X.calm = true) (hK : X.K = K) (h : PGs X es t) (hn : (assignEach es X.env).length = n := by rfl) (hs : List.findIdx? (fun x => x.fst) (assignEach es X.env) = none := by rfl) : PG X (.Tuple es i pos) (gTup K n t) := by
  subst hK
  exact pg_tup hc h hn hs
theorem cr_reprB : CallR X (.builtin "repr") rReprB := by
  intro pins s σ H xs us Q I r h
  obtain ⟨b, rfl, q⟩ := h
  cases r with
  | cons r1 rr =>
    cases rr
    cases r1
    exact PySem.P.repr_of_bool ⟨.str _, H, I.tok _, ⟨_, rfl⟩, q⟩
end
section
variable {H : Hp} {Q : VK}
theorem i_reprB {b : Bool} (h : Q (.str (if b then "True" else "False")) H) : rReprB [.bl b] H Q := ⟨b, rfl, h⟩
theorem i_neS {x y : Str} (e : x = y) (h : Q (.bl false) H) : rNe (.str x) (.str y) H Q := ⟨rfl, by rw [e, decide_eq_true rfl]; exact h⟩
end
theorem div_nnI {a b : Int} (ha : 0 ≤ a) (hb : 0 < b) : (0 : Rat) ≤ (a : Rat) / (b : Rat) := div_nn (by exact_mod_cast ha) (by exact_mod_cast hb)
theorem i_eqB {H : Hp} {Q : VK} {a b : Int} (h1 : a = b → Q (.bl true) H) (h2 : ¬ a = b → Q (.bl false) H) : rEq (.int a) (.int b) H Q :=
  if e : a = b then i_eqT e (h1 e) else i_eqF e (h2 e)
theorem sz_zero : Sz 1 0 := ⟨by decide, by decide⟩
theorem ite_d2 {c A B : Prop} [Decidable c] (h1 : c → A) (h2 : ¬ c → B) : if decide c = true then A else B :=
  if e : c then ite_d e (h1 e) else ite_dn e (h2 e)
theorem not_less {x y : Rat} : (!decide (x < y)) = (true && decide (y ≤ x)) := by
  rw [Bool.true_and, ← decide_not, decide_eq_decide]
  exact Rat.not_lt
abbrev spLess (K : PySem.W.Frag) : Sp := spCmp K fun p q => decide (p < q)
/-- a pair of ratios: volts, ohms -/
def PairAt (K : PySem.W.Frag) (H : Hp) (s : Addr) (v r : Rat) : Prop := ∃ a b, SqT K H s [.ref a, .ref b] ∧ SqT K H a (rat v) ∧ SqT K H b (rat r) ∧ 0 ≤ v ∧ 0 ≤ r
section
variable {K : PySem.W.Frag} {H H' : Hp} {s p : Addr} {v r : Rat}
theorem PairAt.same (h : PairAt K H s v r) (S : Same H H') : PairAt K H' s v r := by
  obtain ⟨a, b, h1, h2, h3, h4⟩ := h
  exact ⟨a, b, S.seqT h1, S.seqT h2, S.seqT h3, h4⟩
theorem PairAt.but {n : Int} (h : PairAt K H s v r) (hP : Pot H p n) (B : But p H H') : PairAt K H' s v r := by
  obtain ⟨a, b, h1, h2, h3, h4⟩ := h
  exact ⟨a, b, hP.but B h1, hP.but B h2, hP.but B h3, h4⟩
end
theorem PairAt.butL {K : PySem.W.Frag} {H H' : Hp} {s p : Addr} {v r : Rat} {ys : List V} (h : PairAt K H s v r) (hp : H p = some (.lst ys)) (B : But p H H') : PairAt K H' s v r := by
  obtain ⟨a, b, h1, h2, h3, h4⟩ := h
  exact ⟨a, b, seqT_but hp B h1, seqT_but hp B h2, seqT_but hp B h3, h4⟩
theorem Sz.read {j : Nat} {v r g : Rat} (h1 : Sz j v) (h2 : Sz j r) (h3 : Sz j g) (hr : 0 ≤ r) (hg : 0 ≤ g) : Sz (8 * j + 6) (v / (1 + r * g)) :=
  ((h1.mono (by omega)).div (h2.weak h3) (one_pos hr hg)).mono (by omega)
def spRead (K : PySem.W.Frag) : Sp := fun vs H Q _ => ∃ (a s : Addr) (g v r : Rat) (j : Nat), vs = [.ref a, .ref s] ∧ SqT K H a (rat g) ∧ PairAt K H s v r ∧ 0 ≤ g ∧ Sz j g ∧ Sz j v ∧ Sz j r ∧ j ≤ 400 ∧
  ∀ (p : Addr) (H' : Hp), Same H H' → H p = none → H' p = some (.tup (rat (v / (1 + r * g)))) → Q (.ref p) H'
def spFair (K : PySem.W.Frag) : Sp := fun vs H Q _ => ∃ (p : Addr) (n : Int), vs = [.ref p] ∧ Pot H p n ∧ n < 900000 ∧
  ∀ (a : Addr) (H' : Hp) (q : Rat), But p H H' → Pot H' p (n + 5) → H a = none → SqT K H' a (rat q) → 0 ≤ q → Sz 20 q → Q (.ref a) H'
def spNear (K : PySem.W.Frag) : Sp := fun vs H Q _ => ∃ (p s : Addr) (n : Int) (v r : Rat) (j : Nat), vs = [.ref p, .ref s] ∧ Pot H p n ∧ n < 800000 ∧ PairAt K H s v r ∧ Sz j v ∧ Sz j r ∧ 20 ≤ j ∧ j ≤ 200 ∧
  ∀ (a : Addr) (H' : Hp) (w u : Rat), But p H H' → Pot H' p (n + 20) → PairAt K H' a w u → Sz (j + j) w → Sz (j + j) u → Q (.ref a) H'
def spIsStrong (K : PySem.W.Frag) : Sp := fun vs H Q _ => ∃ (s t : Addr) (v r w u : Rat) (j : Nat), vs = [.ref s, .ref t] ∧ PairAt K H s v r ∧ PairAt K H t w u ∧ Sz j v ∧ Sz j r ∧ Sz j w ∧ Sz j u ∧ j ≤ 400 ∧
  ∀ H', Same H H' → Q (.bl (strong v r w u)) H'
/-- loads beside which one reads less than other -/
def Weak (K : PySem.W.Frag) (H : Hp) (v r w u : Rat) (x : V) : Prop := ∃ a g, x = .ref a ∧ SqT K H a (rat g) ∧ 0 ≤ g ∧ Sz 40 g ∧ v / (1 + r * g) < w / (1 + u * g)
theorem Weak.same {K : PySem.W.Frag} {H H' : Hp} {v r w u : Rat} {x : V} (h : Weak K H v r w u x) (S : Same H H') : Weak K H' v r w u x := by
  obtain ⟨a, g, e, h1, h2⟩ := h
  exact ⟨a, g, e, S.seqT h1, h2⟩
theorem Weak.butL {K : PySem.W.Frag} {H H' : Hp} {p : Addr} {ys : List V} {v r w u : Rat} {x : V} (h : Weak K H v r w u x) (hp : H p = some (.lst ys)) (B : But p H H') : Weak K H' v r w u x := by
  obtain ⟨a, g, e, h1, h2⟩ := h
  exact ⟨a, g, e, seqT_but hp B h1, h2⟩
theorem rat_int (i : Int) : [V.int i, V.int 1] = rat (i : Rat) := rfl
theorem sz_int {i : Int} {k : Nat} (h : i.natAbs < 2 ^ k) (hk : 0 < k) : Sz k (i : Rat) := ⟨h, Nat.one_lt_pow (by omega) (by decide)⟩
def spWeakLoads (K : PySem.W.Frag) : Sp := fun vs H Q _ => ∃ (s t : Addr) (v r w u : Rat) (j : Nat), vs = [.ref s, .ref t] ∧ PairAt K H s v r ∧ PairAt K H t w u ∧ Sz j v ∧ Sz j r ∧ Sz j w ∧ Sz j u ∧ j ≤ 100 ∧
  ∀ (l : Addr) (H' : Hp) (xs : List V), Same H H' → H l = none → H' l = some (.lst xs) → xs.length ≤ 100 → (∀ x ∈ xs, Weak K H' v r w u x) → Q (.ref l) H'
def spTwo (K : PySem.W.Frag) : Sp := fun vs H Q _ => ∃ (p s t : Addr) (n : Int) (v r w u : Rat), vs = [.ref p, .ref s, .ref t] ∧ Pot H p n ∧ n < 800000 ∧ PairAt K H s v r ∧ PairAt K H t w u ∧ Sz 100 v ∧ Sz 100 r ∧ Sz 100 w ∧ Sz 100 u ∧
  ∀ H', But p H H' → Pot H' p (n + 20) → Q (.bl true) H'
/-- one round of a law: the pot may be drawn from, the answer is True -/
def spRound (m : Int) : Sp := fun vs H Q _ => ∃ (p : Addr) (n : Int), vs = [.ref p] ∧ Pot H p n ∧ n < 100000 ∧ ∀ H', But p H H' → Pot H' p (n + m) → Q (.bl true) H'
def spLaw (K : PySem.W.Frag) : Sp := fun vs H Q _ => ∃ (a : Addr) (ns : List Int), vs = [.ref a] ∧ SqL K H a (ns.map V.int) ∧ ns.length ≤ 63 ∧ ∀ H', Q (.bl true) H'
theorem strong_self {v r : Rat} : strong v r v r = true := by
  unfold strong
  rw [decide_eq_true (Rat.le_refl (a := v)), decide_eq_true (Rat.le_refl (a := v * r))]
  rfl
theorem strong_iff {v r w u : Rat} : strong v r w u = true ↔ w ≤ v ∧ w * r ≤ v * u := by
  unfold strong
  rw [Bool.and_eq_true, decide_eq_true_iff, decide_eq_true_iff]
theorem div_mul_self {p q : Rat} (hq : 0 < q) : p / q * q = p := by
  have : q ≠ 0 := fun z => by rw [z] at hq; exact absurd hq (by decide)
  grind
theorem cross_lt {a b c d : Rat} (hb : 0 < b) (hd : 0 < d) : a / b < c / d ↔ a * d < c * b := by
  rw [Rat.div_lt_iff hb]
  have e : c / d * b = c * b / d := by grind
  rw [e, Rat.lt_div_iff hd]
theorem cross_eq {a b c d : Rat} (hb : 0 < b) (hd : 0 < d) : a / b = c / d ↔ a * d = c * b := by
  have h1 : b ≠ 0 := fun z => by rw [z] at hb; exact absurd hb (by decide)
  have h2 : d ≠ 0 := fun z => by rw [z] at hd; exact absurd hd (by decide)
  grind
theorem due_read {v r w u g : Rat} (h : strong v r w u = true) (hr : 0 ≤ r) (hu : 0 ≤ u) (hg : 0 ≤ g) : ¬ v / (1 + r * g) < w / (1 + u * g) := by
  obtain ⟨h1, h2⟩ := strong_iff.mp h
  rw [cross_lt (one_pos hr hg) (one_pos hu hg), Rat.not_lt]
  have := Rat.mul_le_mul_of_nonneg_right h2 hg
  have e1 : w * (1 + r * g) = w + w * r * g := by grind
  have e2 : v * (1 + u * g) = v + v * u * g := by grind
  rw [e1, e2]
  grind
theorem both_iff {v r w u : Rat} (h : strong v r w u = true) (hr : 0 ≤ r) (hu : 0 ≤ u) : strong w u v r = (decide (v / (1 + r * 0) = w / (1 + u * 0)) && (decide (v / (1 + r * 1) = w / (1 + u * 1)) && decide (v / (1 + r * 2) = w / (1 + u * 2)))) := by
  obtain ⟨h1, h2⟩ := strong_iff.mp h
  have c0 := cross_eq (a := v) (c := w) (one_pos hr (g := 0) (by decide)) (one_pos hu (g := 0) (by decide))
  have c1 := cross_eq (a := v) (c := w) (one_pos hr (g := 1) (by decide)) (one_pos hu (g := 1) (by decide))
  have c2 := cross_eq (a := v) (c := w) (one_pos hr (g := 2) (by decide)) (one_pos hu (g := 2) (by decide))
  rw [Bool.eq_iff_iff, strong_iff, Bool.and_eq_true, Bool.and_eq_true, decide_eq_true_iff, decide_eq_true_iff, decide_eq_true_iff, c0, c1, c2]
  constructor
  · rintro ⟨h3, h4⟩
    have e1 := Rat.le_antisymm h1 h3
    have e2 := Rat.le_antisymm h2 h4
    refine ⟨?_, ?_, ?_⟩ <;> grind
  · rintro ⟨h3, h4, -⟩
    have e1 : v = w := by grind
    have e2 : v * u = w * r := by grind
    exact ⟨by rw [e1]; exact Rat.le_refl, by rw [e2]; exact Rat.le_refl⟩
theorem rat_inj {p q : Rat} : (decide (p.num = q.num) && decide ((p.den : Int) = (q.den : Int))) = decide (p = q) := by
  rw [Bool.eq_iff_iff, Bool.and_eq_true, decide_eq_true_iff, decide_eq_true_iff, decide_eq_true_iff]
  constructor
  · rintro ⟨h1, h2⟩
    exact Rat.ext h1 (by exact_mod_cast h2)
  · rintro rfl
    exact ⟨rfl, rfl⟩
theorem i_eqBl {H : Hp} {Q : VK} {a b : Bool} (h : Q (.bl (a == b)) H) : rEq (.bl a) (.bl b) H Q := ⟨rfl, by
  have e : decide (V.bl a = V.bl b) = (a == b) := by cases a <;> cases b <;> decide
  rw [e]
  exact h⟩
theorem i_eqDR {K : PySem.W.Frag} {H : Hp} {Q : VK} {a b : Addr} {p q : Rat} (ha : SqT K H a (rat p)) (hb : SqT K H b (rat q)) (h : Q (.bl (decide (p = q))) H) : rEqD K (.ref a) (.ref b) H Q := by
  refine ⟨.tuple [.int p.num, .int p.den], .tuple [.int q.num, .int q.den], .tup ha (.cons (.int _) (.cons (.int _) .nil)), .tup hb (.cons (.int _) (.cons (.int _) .nil)), rfl, rfl, ?_⟩
  have e : PyData.eqv (.tuple [.int p.num, .int p.den]) (.tuple [.int q.num, .int q.den]) = decide (p = q) := by
    rw [← rat_inj]
    simp [PyData.eqv, PyData.eqvAll]
    rfl
  rw [e]
  exact h
theorem i_srcCmp {K : PySem.W.Frag} {C : Addr} {H : Hp} {Q : VK} {f : Rat → Rat → Rat → Rat → Bool} {s t : Addr} {v r w u : Rat} {j : Nat} (A1 : SrcAt K C H s v r) (A2 : SrcAt K C H t w u) (zv : Sz j v) (zr : Sz j r) (zw : Sz j w) (zu : Sz j u) (hj : j ≤ 800)
    (k : ∀ H', Same H H' → Q (.bl (f v r w u)) H') : rOwn C (spSrcCmp K C f) (.ref s) (.ref t) H Q := by
  obtain ⟨d1, a1, b1, e1, _⟩ := id A1
  obtain ⟨d2, a2, b2, e2, _⟩ := id A2
  exact ⟨_, _, _, _, _, _, rfl, rfl, e1, e2, _, _, _, _, _, _, j, rfl, A1, A2, zv, zr, zw, zu, hj, k⟩
theorem strong_trans {v1 r1 v2 r2 v3 r3 : Rat} (h12 : strong v1 r1 v2 r2 = true) (h23 : strong v2 r2 v3 r3 = true) (p1 : 0 ≤ v1) (p2 : 0 ≤ v2) (p3 : 0 ≤ v3) (q3 : 0 ≤ r3) : strong v1 r1 v3 r3 = true := by
  obtain ⟨a1, a2⟩ := strong_iff.mp h12
  obtain ⟨b1, b2⟩ := strong_iff.mp h23
  refine strong_iff.mpr ⟨Rat.le_trans b1 a1, ?_⟩
  rcases Rat.le_iff_lt_or_eq.mp p2 with hp | hz
  · refine Rat.not_lt.mp fun z => ?_
    have c1 := Rat.mul_le_mul_of_nonneg_right a2 p3
    have c2 := Rat.mul_le_mul_of_nonneg_right b2 p1
    have c3 := Rat.mul_lt_mul_of_pos_right z hp
    grind
  · have e : v3 = 0 := Rat.le_antisymm (by rw [← hz] at b1; exact b1) p3
    rw [e, Rat.zero_mul]
    exact Rat.mul_nonneg p1 q3
theorem SrcAt.butL {K : PySem.W.Frag} {C : Addr} {H H' : Hp} {s p : Addr} {v r : Rat} {ys : List V} (h : SrcAt K C H s v r) (hp : H p = some (.lst ys)) (B : But p H H') : SrcAt K C H' s v r := by
  obtain ⟨dx, a, b, h1, h2, h3, h4⟩ := h
  exact ⟨dx, a, b, B _ _ (fun e => by rw [e, hp] at h1; cases h1) h1, seqT_but hp B h2, seqT_but hp B h3, h4⟩
theorem Pot.butA {H H' : Hp} {p A : Addr} {n : Int} (hP : Pot H p n) (h : p ≠ A) (B : But A H H') : Pot H' p n := by
  obtain ⟨x, y, z, hp, hh⟩ := hP
  exact ⟨x, y, z, B _ _ h hp, hh⟩
theorem Pot.ne {H : Hp} {p A : Addr} {n : Int} (hP : Pot H p n) (h : H A = none) : p ≠ A := by
  obtain ⟨_, _, _, hp, _⟩ := hP
  exact ne_of_none hp h
theorem rgV_at {j i : Nat} {x : V} (h : (rgV 0 j)[i]? = some x) : x = .int i ∧ i < j := by
  unfold rgV at h
  rw [List.getElem?_map] at h
  have e : ((j : Int) - 0).toNat = j := by omega
  rw [e] at h
  rcases Nat.lt_or_ge i j with hi | hi
  · rw [List.getElem?_range hi] at h
    have h2 : V.int (0 + (i : Int)) = x := Option.some.inj h
    rw [← h2, Int.zero_add]
    exact ⟨rfl, hi⟩
  · rw [List.getElem?_eq_none (by rw [List.length_range]; exact hi)] at h
    cases h
end My

/-! own layer, 7: sources put together -/
namespace My
open PySem PySem.Spec PyProof.Rows L2
/-- two sources, a new source of them -/
def spSrc2 (K : PySem.W.Frag) (C : Addr) (pre : Rat → Rat → Prop) (fv fr : Rat → Rat → Rat → Rat → Rat) : Sp := fun vs H Q _ => ∃ (s t : Addr) (v r w u : Rat) (j : Nat), vs = [.ref s, .ref t] ∧ SrcAt K C H s v r ∧ SrcAt K C H t w u ∧ Sz j v ∧ Sz j r ∧ Sz j w ∧ Sz j u ∧ j ≤ 400 ∧ pre r u ∧
  ∀ (p : Addr) (H' : Hp), Same H H' → H p = none → SrcAt K C H' p (fv v r w u) (fr v r w u) → Q (.ref p) H'
abbrev spSrcAdd (K : PySem.W.Frag) (C : Addr) : Sp := spSrc2 K C (fun _ _ => True) (fun v _ w _ => v + w) (fun _ r _ u => r + u)
abbrev spSrcAnd (K : PySem.W.Frag) (C : Addr) : Sp := spSrc2 K C (fun r u => 0 < r + u) (fun v r w u => (v * u + w * r) / (r + u)) (fun _ r _ u => r * u / (r + u))
def spSrcEq (K : PySem.W.Frag) (C : Addr) : Sp := fun vs H Q _ => ∃ (s t : Addr) (v r w u : Rat), vs = [.ref s, .ref t] ∧ SrcAt K C H s v r ∧ SrcAt K C H t w u ∧ ∀ H', Same H H' → Q (.bl (decide (v = w) && decide (r = u))) H'
/-- so many times a source -/
def spMany (K : PySem.W.Frag) (C : Addr) : Sp := fun vs H Q _ => ∃ (s : Addr) (m : Int) (v r : Rat) (j : Nat), vs = [.ref s, .int m] ∧ SrcAt K C H s v r ∧ 0 ≤ m ∧ m.natAbs < 2 ^ j ∧ Sz j v ∧ Sz j r ∧ 0 < j ∧ j ≤ 400 ∧
  ∀ (p : Addr) (H' : Hp), Same H H' → H p = none → SrcAt K C H' p (v * (m : Rat)) r → Q (.ref p) H'
theorem add_nn {p q : Rat} (hp : 0 ≤ p) (hq : 0 ≤ q) : 0 ≤ p + q := Rat.add_nonneg hp hq
theorem num_zero {p : Rat} (h : 0 < p) : ¬ p.num = 0 := by
  have := pos_num h
  omega
section
variable {K : PySem.W.Frag} {H : Hp} {Q : VK} {C : Addr} {s t : Addr} {v r w u : Rat} {j : Nat}
theorem i_src2 {pre : Rat → Rat → Prop} {fv fr : Rat → Rat → Rat → Rat → Rat} (A1 : SrcAt K C H s v r) (A2 : SrcAt K C H t w u) (zv : Sz j v) (zr : Sz j r) (zw : Sz j w) (zu : Sz j u) (hj : j ≤ 400) (hp : pre r u)
    (k : ∀ (p : Addr) (H' : Hp), Same H H' → H p = none → SrcAt K C H' p (fv v r w u) (fr v r w u) → Q (.ref p) H') : rOwn C (spSrc2 K C pre fv fr) (.ref s) (.ref t) H Q := by
  obtain ⟨d1, a1, b1, e1, _⟩ := id A1
  obtain ⟨d2, a2, b2, e2, _⟩ := id A2
  exact ⟨_, _, _, _, _, _, rfl, rfl, e1, e2, _, _, _, _, _, _, j, rfl, A1, A2, zv, zr, zw, zu, hj, hp, k⟩
end
end My

/-! own layer, 8: operators of an own instance and an integer -/
namespace My
open PySem PySem.Spec PyProof.Rows L2
theorem lk {M : Model} {A : Around} {α β : Type} {t : Sem α} {r : α} {f : α → Sem β} {Q : β → Shared → Prop} {E : Value → Shared → Prop} {s : Shared} (hl : PySem.W.Looks M s.heap t r) (h : wpAny M A (f r) Q E s) : wpAny M A (t >>= f) Q E s := wpAny_bind (hl.here h)
theorem lkp {M : Model} {A : Around} {α β : Type} {t : Sem α} {r : α} {f : α → Sem β} {Q : β → Shared → Prop} {E : Value → Shared → Prop} {s : Shared} (hl : t = pure r) (h : wpAny M A (f r) Q E s) : wpAny M A (t >>= f) Q E s := lk (.of_pure hl) h
/-- x op i of an own instance and an integer; i op x, reflected -/
def rOwnI (C : Addr) (sp : Sp) : R2 := fun x y H Q => ∃ (i : Int) (a dx : Addr) (fs : List (Str × V)), x = .ref a ∧ y = .int i ∧ H a = some (.ins C dx fs) ∧ sp [x, y] H Q E0
def rOwnR (C : Addr) (sp : Sp) : R2 := fun x y H Q => ∃ (i : Int) (a dx : Addr) (fs : List (Str × V)), x = .int i ∧ y = .ref a ∧ H a = some (.ins C dx fs) ∧ sp [y, x] H Q E0
/-- what is asked of a class that is multiplied with integers -/
structure MulI (K : PySem.W.Frag) (C : Addr) : Prop where
  m : ∃ g, PySem.W.findIn K (.ref C) "__mul__" = some (some (.ref g))
  r : ∃ g, PySem.W.findIn K (.ref C) "__rmul__" = some (some (.ref g))
  fo : ∃ x, PySem.W.findIn K (.type "int") "__mul__" = some x
  ro : ∃ x, PySem.W.findIn K (.type "int") "__rmul__" = some x
  s1 : PySem.W.subIn K (.type "int") (.ref C) = some false
  s2 : PySem.W.subIn K (.ref C) (.type "int") = some false
section
variable {X : Cx} {CX : CXT} {k : Nat} {m qual : Str} {st : Stmt} {sp : Sp} {C : Addr}
theorem op_ownI (g : GOp X.K C "__mul__" qual st) (F : FnAt X.prog X.w X.K X.mg X.base CX k (He.ma X.K C "__mul__") ["self", "other"] sp) (hr : Room k X.A) (hc : PySem.W.selfFirst X.K C = true) (y : MulI X.K C)
    (hx : Passes CX X E0 := by first | exact pass0 | exact passL) : OpR X (binaryOp .Mult) (rOwnI C sp) := by
  intro pins s σ H x y' v u Q I rx ry h
  obtain ⟨i, a, dx, fs, rfl, rfl, ha, hsp⟩ := h
  cases rx
  obtain ⟨tk, rfl⟩ := ry
  obtain ⟨mA, J, _⟩ := ins_get I.hok ha
  obtain ⟨od, J, _⟩ := J.look
  obtain ⟨mm, hF⟩ := I.fr
  obtain ⟨g1, y1⟩ := y.r
  obtain ⟨x1, y2⟩ := y.fo
  obtain ⟨x2, y3⟩ := y.ro
  refine PySem.W.ksp_binT (T := "int") hF I.ok.mod.kin J rfl hc g.at_ g.fn y1 (.inr ⟨g1, rfl⟩) y2 y3 y.s1 ?_
  exact thn (run_fn (vs := [.ref a, .int i]) F hr g.b .nil hx I (.cons rfl (.cons ⟨tk, rfl⟩ .nil)) hsp) fun r s' q => back_of q
theorem op_ownR (g : GOp X.K C "__rmul__" qual st) (F : FnAt X.prog X.w X.K X.mg X.base CX k (He.ma X.K C "__rmul__") ["self", "other"] sp) (hr : Room k X.A) (hc : PySem.W.selfFirst X.K C = true) (y : MulI X.K C)
    (hx : Passes CX X E0 := by first | exact pass0 | exact passL) : OpR X (binaryOp .Mult) (rOwnR C sp) := by
  intro pins s σ H x y' v u Q I rx ry h
  obtain ⟨i, a, dx, fs, rfl, rfl, ha, hsp⟩ := h
  obtain ⟨tk, rfl⟩ := rx
  cases ry
  obtain ⟨mA, J, _⟩ := ins_get I.hok ha
  obtain ⟨od, J, _⟩ := J.look
  obtain ⟨mm, hF⟩ := I.fr
  have hK : X.K.In s.heap := fun b o e => hF.keep b o (I.ok.mod.kin b o e)
  obtain ⟨g1, y1⟩ := y.m
  obtain ⟨cd, rest, hcl, hmro⟩ := PySem.W.ksp_first hc
  unfold binaryOp
  refine wpAny_holding ?_
  refine wpAny_bind ?_
  unfold binaryOp1
  refine lkp (r := .type "int") rfl ?_
  refine lk J.type ?_
  refine lkp PyProof.Rows.fills_int_mul ?_
  have e : (Value.type "int" == Value.ref C) = false := rfl
  simp only [e]
  refine lk (PySem.W.fills_K hK hcl hmro y1) ?_
  rw [if_pos (show (true && true) = true from rfl)]
  refine lk (PySem.W.looks_subIn hK y.s2) ?_
  rw [if_neg (show ¬ (false = true) from Bool.false_ne_true)]
  rw [if_pos (show (true && true && !false) = true from rfl)]
  refine lkp (r := false) rfl ?_
  rw [if_neg (show ¬ (false = true) from Bool.false_ne_true)]
  rw [if_pos (show True from trivial)]
  refine wpAny_bind ?_
  unfold tryMethod
  refine wpAny_bind ?_
  refine wpAny_callSpecial?_slot (T := "int") rfl PyProof.Rows.slot_int_mul ?_
  refine wpAny_call_entry (b := Builtin.«int.__mul__») PyProof.Rows.slot_int_mul rfl PyProof.Rows.entry_int_mul ?_
  · unfold Builtin.«int.__mul__» Builtin.Int.intBinary
    refine lkp (r := (Value.int i tk, [Value.ref a])) rfl ?_
    refine lkp (r := i) rfl ?_
    have hl : PySem.W.Looks (model X.prog X.w) s.heap (asInt? (Value.ref a)) none := .andThen (.ld J.at_) .now
    refine lk hl ?_
    refine (PySem.W.Looks.tag .now).here ⟨_, rfl, ?_⟩
    refine (PySem.W.Looks.now (a := (none : Option Value))).here ?_
    show wpAny _ _ (if false = true then _ else _) _ _ _
    rw [if_neg (show ¬ (false = true) from Bool.false_ne_true)]
    rw [if_pos (show (true && !false) = true from rfl)]
    refine wpAny_bind ?_
    refine thn (PySem.W.ksp_try hK J g.at_ g.fn (thn (run_fn (vs := [.ref a, .int i]) F hr g.b .nil hx I (.cons rfl (.cons ⟨tk, rfl⟩ .nil)) hsp) fun r s' q => back_of q)) fun r s' hq => ?_
    obtain ⟨v, rfl, q⟩ := hq
    refine (PySem.W.Looks.tag .now).here ?_
    exact PySem.W.Looks.now.here q
end
end My

/-! own layer, 9: != by an own == -/
namespace My
open PySem PySem.Spec PyProof.Rows L2
theorem ns_at {K : PySem.W.Frag} {h : Heap} {N : Addr} {x : Str} {r : Option Value} (hK : K.In h) (e : PySem.W.nsIn K N x = some r) : h.nsMap N x = r := by
  unfold PySem.W.nsIn at e
  split at e
  · rename_i oc od es ep sl hl
    have g := hK _ _ hl
    unfold Heap.nsMap
    rw [g]
    show nsFind es x = r
    unfold nsFind findBy
    rw [← Array.find?_toList]
    split at e
    · rename_i q hq
      rw [hq]
      exact Option.some.inj e
    · rename_i hq
      rw [hq]
      split at e
      · cases e
      · exact Option.some.inj e
  · cases e
/-- what != asks of a class with an own __eq__ and no __ne__ -/
def neB (K : PySem.W.Frag) (C : Addr) : Bool := match K.lookup C with
  | some ⟨.type "type", _, .cls cd, sl⟩ => match cd.mro, sl.toList with
    | [.ref C', .type o], [_, _, _, _, some (.builtin _), _] => C' == C && (o == "object" && (!cd.hasDel && (PySem.W.nsOkIn K cd.ns && (He.eqO (PySem.W.nsIn K cd.ns "__eq__") (some (some (.ref (He.ma K C "__eq__")))) && He.eqO (PySem.W.nsIn K cd.ns "__ne__") (some none)))))
    | _, _ => false
  | _ => false
theorem neB_ok {K : PySem.W.Frag} {h : Heap} {C x : Addr} {ox of : Obj} (hK : K.In h) (nb : neB K C = true) (hf : h.get? (He.ma K C "__eq__") = some of) (hc : of.cls = .type "function") (hx : h.get? x = some ox) (hxc : ox.cls = .ref C) : h.OwnEqNoNe x C (He.ma K C "__eq__") "object" [.type "object"] := by
  unfold neB at nb
  split at nb
  · rename_i dd cd sl hl
    split at nb
    · rename_i C' o k0 k1 k2 k3 nw k5 hm hs
      obtain ⟨e1, nb⟩ := He.ba nb
      obtain ⟨e2, nb⟩ := He.ba nb
      obtain ⟨e3, nb⟩ := He.ba nb
      obtain ⟨e4, nb⟩ := He.ba nb
      obtain ⟨e5, e6⟩ := He.ba nb
      have e1 := eq_of_beq e1
      have e2 := eq_of_beq e2
      subst e1 e2
      have hsl : sl = #[k0, k1, k2, k3, some (.builtin nw), k5] := by
        rw [← Array.toArray_toList (xs := sl), hs]
      have g := hK _ _ hl
      rw [hsl] at g
      obtain ⟨nm, bs, mro, ns, q, hd, sn, sub, ab, col, del⟩ := cd
      simp only at hm e3 e4 e5 e6 g
      subst hm
      have e3 : del = false := by
        cases del
        · rfl
        · cases e3
      subst e3
      exact ⟨ox, of, nm, q, ns, bs, hd, sn, sub, ab, col, dd, k0, k1, k2, k3, k5, nw, h.nsMap ns, _, hx, hxc, g, Heap.Ns.of_isNs (PySem.W.isNs_of_in hK e4), ns_at hK (He.eqO_ok e5), hf, hc, PySem.F.cmp_object.mro, PySem.F.cmp_object.eq.lookup, ns_at hK (He.eqO_ok e6)⟩
    · cases nb
  · cases nb
/-- the same place, one row deeper -/
abbrev in1 (X : Cx) : Cx := { X with A := X.A.in1 }
section
variable {X : Cx} {CX : CXT} {k : Nat} {m qual : Str} {st : Stmt} {sp : Sp} {C : Addr}
theorem inv_up {pins : List (Addr × Obj)} {σ : L2.St} {H : Hp} {s : Shared} (I : L2.Inv X pins σ H s) : L2.Inv (in1 X) pins σ H s :=
  ⟨⟨I.ok.mod, I.ok.kind, I.ok.glob, I.ok.blt, I.ok.above, I.ok.inj, I.ok.has, I.ok.cab, I.ok.hd, I.ok.frames, I.ok.stk, I.ok.exf, I.ok.bs, I.ok.bsz, I.ok.noex, I.ok.exfs, I.ok.funs, I.ok.frf⟩, I.os, I.bare, I.base, I.loc, I.cell, I.free, I.freeC, I.pin, I.hok, I.len⟩
theorem inv_dn {pins : List (Addr × Obj)} {σ : L2.St} {H : Hp} {s : Shared} (I : L2.Inv (in1 X) pins σ H s) : L2.Inv X pins σ H s :=
  ⟨⟨I.ok.mod, I.ok.kind, I.ok.glob, I.ok.blt, I.ok.above, I.ok.inj, I.ok.has, I.ok.cab, I.ok.hd, I.ok.frames, I.ok.stk, I.ok.exf, I.ok.bs, I.ok.bsz, I.ok.noex, I.ok.exfs, I.ok.funs, I.ok.frf⟩, I.os, I.bare, I.base, I.loc, I.cell, I.free, I.freeC, I.pin, I.hok, I.len⟩
/-- x != y of two instances of one class: not its own == -/
def rOwnN (C : Addr) (sp : Sp) : R2 := fun x y H Q => ∃ a b dx dy fs gs, x = .ref a ∧ y = .ref b ∧ H a = some (.ins C dx fs) ∧ H b = some (.ins C dy gs) ∧ sp [x, y] H (fun v H' => ∃ k, v = .bl k ∧ Q (.bl (!k)) H') E0
theorem ne_own (nb : neB X.K C = true) (g : GOp X.K C "__eq__" qual st) (F : FnAt X.prog X.w X.K X.mg X.base CX k (He.ma X.K C "__eq__") ["self", "other"] sp) (hr : Room (k + 1) X.A)
    (hx : Passes CX X E0 := by first | exact pass0 | exact passL) : OpR X (compareOp .NotEq) (rOwnN C sp) := by
  intro pins s σ H x y v u Q I rx ry h
  obtain ⟨a, b, dx, dy, fs, gs, rfl, rfl, ha, hb, hsp⟩ := h
  cases rx
  cases ry
  obtain ⟨mA, J, _⟩ := ins_get I.hok ha
  obtain ⟨mB, J', _⟩ := ins_get I.hok hb
  obtain ⟨od, J, _⟩ := J.look
  obtain ⟨od', J', _⟩ := J'.look
  obtain ⟨mm, hF⟩ := I.fr
  have hK : X.K.In s.heap := fun b o e => hF.keep b o (I.ok.mod.kin b o e)
  have hu : X.A.units + 1 < cLine := by have := hr.un; omega
  obtain ⟨of, hf, hc⟩ : ∃ of, s.heap.get? (He.ma X.K C "__eq__") = some of ∧ of.cls = .type "function" := by
    have h := g.fn
    unfold PySem.W.isFn at h
    have h := eq_of_beq h
    obtain ⟨oc, od, kV, doc, pm, an, cdv, ct, osl, e, hl, hcd⟩ := g.f.ex
    have h : Option.map (fun x => x.cls) (List.lookup (He.ma X.K C "__eq__") X.K) = some (.type "function") := h
    rw [hl] at h
    exact ⟨_, hK _ _ hl, Option.some.inj h⟩
  refine compareOp_ne_ownEq (h := s.heap) PySem.F.cmp_object (neB_ok hK nb hf hc J.at_ J.cls) J'.at_ J'.cls hu ?_
  have hx1 : Passes CX (in1 X) E0 := fun pins σ H s e s' I' c => hx pins σ H s e s' (inv_dn I') c
  refine thn (run_fn (X := in1 X) (vs := [.ref a, .ref b]) F hr.in1 g.b .nil hx1 (inv_up I) (.cons rfl (.cons rfl .nil)) hsp) fun r s' q => ?_
  obtain ⟨v, H', I', rv, ⟨k, rfl, q⟩⟩ := q
  exact ⟨k, rv, ⟨.bl (!k), H', inv_dn I', rfl, q⟩⟩
end
def refB : Option (Option Value) → Bool
  | some (some (.ref _)) => true
  | _ => false
theorem refB_ok {o : Option (Option Value)} (h : refB o = true) : ∃ g, o = some (some (.ref g)) := by
  unfold refB at h
  split at h
  · exact ⟨_, rfl⟩
  · cases h
def mulB (K : PySem.W.Frag) (x : Str) : Bool := refB (PySem.W.findIn K (.ref (He.ga K x)) "__mul__") && (refB (PySem.W.findIn K (.ref (He.ga K x)) "__rmul__") && ((PySem.W.findIn K (.type "int") "__mul__").isSome && ((PySem.W.findIn K (.type "int") "__rmul__").isSome &&
  (decide (PySem.W.subIn K (.type "int") (.ref (He.ga K x)) = some false) && decide (PySem.W.subIn K (.ref (He.ga K x)) (.type "int") = some false)))))
theorem mulB_ok {K : PySem.W.Frag} {x : Str} (h : mulB K x = true) : MulI K (He.ga K x) := by
  obtain ⟨h1, h⟩ := He.ba h
  obtain ⟨h2, h⟩ := He.ba h
  obtain ⟨h3, h⟩ := He.ba h
  obtain ⟨h4, h⟩ := He.ba h
  obtain ⟨h5, h6⟩ := He.ba h
  exact ⟨refB_ok h1, refB_ok h2, Option.isSome_iff_exists.mp h3, Option.isSome_iff_exists.mp h4, of_decide_eq_true h5, of_decide_eq_true h6⟩
section
variable {K : PySem.W.Frag} {H : Hp} {Q : VK} {C : Addr} {s t : Addr} {v r w u : Rat} {j : Nat}
theorem i_srcNe (A1 : SrcAt K C H s v r) (A2 : SrcAt K C H t w u) (k : ∀ H', Same H H' → Q (.bl (!(decide (v = w) && decide (r = u)))) H') : rOwnN C (spSrcEq K C) (.ref s) (.ref t) H Q := by
  obtain ⟨d1, a1, b1, e1, _⟩ := id A1
  obtain ⟨d2, a2, b2, e2, _⟩ := id A2
  exact ⟨_, _, _, _, _, _, rfl, rfl, e1, e2, _, _, _, _, _, _, rfl, A1, A2, fun H' S => ⟨_, rfl, k H' S⟩⟩
theorem i_srcEq (A1 : SrcAt K C H s v r) (A2 : SrcAt K C H t w u) (k : ∀ H', Same H H' → Q (.bl (decide (v = w) && decide (r = u))) H') : rOwn C (spSrcEq K C) (.ref s) (.ref t) H Q := by
  obtain ⟨d1, a1, b1, e1, _⟩ := id A1
  obtain ⟨d2, a2, b2, e2, _⟩ := id A2
  exact ⟨_, _, _, _, _, _, rfl, rfl, e1, e2, _, _, _, _, _, _, rfl, A1, A2, k⟩
theorem i_manyI {m : Int} (A1 : SrcAt K C H s v r) (m0 : 0 ≤ m) (mz : m.natAbs < 2 ^ j) (zv : Sz j v) (zr : Sz j r) (j0 : 0 < j) (hj : j ≤ 400) (k : ∀ (p : Addr) (H' : Hp), Same H H' → H p = none → SrcAt K C H' p (v * (m : Rat)) r → Q (.ref p) H') : rOwnI C (spMany K C) (.ref s) (.int m) H Q := by
  obtain ⟨d1, a1, b1, e1, _⟩ := id A1
  exact ⟨m, _, _, _, rfl, rfl, e1, _, m, v, r, j, rfl, A1, m0, mz, zv, zr, j0, hj, k⟩
theorem i_manyR {m : Int} (A1 : SrcAt K C H s v r) (m0 : 0 ≤ m) (mz : m.natAbs < 2 ^ j) (zv : Sz j v) (zr : Sz j r) (j0 : 0 < j) (hj : j ≤ 400) (k : ∀ (p : Addr) (H' : Hp), Same H H' → H p = none → SrcAt K C H' p (v * (m : Rat)) r → Q (.ref p) H') : rOwnR C (spMany K C) (.int m) (.ref s) H Q := by
  obtain ⟨d1, a1, b1, e1, _⟩ := id A1
  exact ⟨m, _, _, _, rfl, rfl, e1, _, m, v, r, j, rfl, A1, m0, mz, zv, zr, j0, hj, k⟩
end
end My

/-! own layer, 10: defs that write values out (no guard stands when they are called) -/
namespace My
open PySem PySem.Spec PyProof.Rows L2
structure FnG (P : Program) (w : World) (K : PySem.W.Frag) (mg : Str → Option Value) (base : Heap) (CX : CXT) (k : Nat) (f : Addr) (fd : FuncData) (ps : List Str) (sp : Sp) : Prop where
  len : ∀ vs H Q E, sp vs H Q E → vs.length = ps.length
  run : ∀ A outer s H args us vs Q E, A.guards = some [] → Room k A → Env0 P w K mg base A outer s H → BindsTo s fd args (ps.zip us) → Vals vs us → sp vs H Q E →
    codeAny (model P w) A (Code.call (.ref f) args) (CR CX outer P w H s Q E) s
section
variable {CX : CXT} {P : Program} {w : World} {K : PySem.W.Frag} {mg : Str → Option Value} {base : Heap} {k : Nat} {f : Addr} {name qual : Str} {params : Arguments} {body : List Stmt} {scope : Scope} {dV kV doc pm cdv ct oc : Value} {an od : Option Addr} {osl : Array (Option Value)} {N ps : List Str} {sp : Sp}
theorem fn_ofG (lk : K.lookup f = some ⟨oc, od, .func (PySem.W.fnOf name qual params body scope dV kV doc pm an cdv ct), osl⟩) (hcd : PySem.W.codeIn K cdv qual = true) (S : FnScope N ps scope) (len : ∀ vs H Q E, sp vs H Q E → vs.length = ps.length)
    (hbody : ∀ (A : Around) (outer : List Env) (s : Shared) (H : Hp) (vs : List V) (Q : VK) (E : XK), A.guards = some [] → Room k (A.deeper (envOfC qual scope s.heap.objs.size f cdv)) → sp vs H Q E →
      ∃ t, PSs (cxOf CX P w K mg base N qual scope f cdv A outer s H E) body t ∧ t { nx := fun _ H' => Q .non H', rt := Q } (L2.start N vs) H) :
    FnG P w K mg base CX (k + 1) f (PySem.W.fnOf name qual params body scope dV kV doc pm an cdv ct) ps sp := by
  refine ⟨len, fun A outer s H args us vs Q E hgd hr e0 hb r hsp => ?_⟩
  have hl := len vs H Q E hsp
  have KX : K.In s.heap := fun b o e => (e0.bs b o (e0.mod.kin b o e)).1
  have lim := e0.mod.nolimit.keeps fun b o e => (e0.bs b o e).1
  refine codeAny_call_function hr.depth (KX f _ lk) rfl S.co S.gen rfl (PySem.W.codeRec_of KX hcd) ?_
  refine hb _ _ _ _ ?_
  refine wpAny_newFunctionEnv_cells S.kind ?_ ?_
  · rintro ⟨n, v⟩ hy
    rcases S.par n (List.of_mem_zip hy).1 with q | q
    · exact .inl q
    · exact .inr ⟨q, PySem.W.cellsFrom_some scope.names (s.heap.objs.size + 1) [] (.inl q)⟩
  · intro env he s1 x
    subst he
    refine ⟨lim.keeps x.toInCall.keep, codeAny_func ?_⟩
    obtain ⟨t, ht, hq⟩ := hbody A outer s H vs Q E hgd (hr.deeper _) hsp
    have I := inv_start (CX := CX) (E := E) S hr.hd e0 hl r x
    refine wpAny_mono (ht.run [] s1 (L2.start N vs) H _ I hq) (fun fl s' hs => ?_) fun e s' hs => hs
    cases fl with
    | ret u =>
      obtain ⟨v, σ', H', J, rv, q⟩ := hs
      exact ⟨v, H', J.os, J.bare, J.base, J.hok, rv, q⟩
    | next =>
      obtain ⟨σ', H', J, q⟩ := hs
      exact ⟨.non, H', J.os, J.bare, J.base, J.hok, rfl, q⟩
    | brk =>
      obtain ⟨_, _, _, q⟩ := hs
      exact q.elim
    | cont =>
      obtain ⟨_, _, _, q⟩ := hs
      exact q.elim
end
section
variable {X : Cx} {CX : CXT} {k : Nat} {f : Addr} {fd : FuncData} {ps : List Str} {sp : Sp} {dvs : List V} {ds : List Value} {E : XK} {pins : List (Addr × Obj)} {σ : L2.St} {H : Hp} {s : Shared} {Q : VK} {us : List Value} {vs : List V}
theorem run_fnG (F : FnG X.prog X.w X.K X.mg X.base CX k f fd ps sp) (hgd : X.A.guards = some []) (hr : Room k X.A) (hb : L2.Binds X.K fd ps ds) (hd : Vals dvs ds) (hx : Passes CX X E) (I : L2.Inv X pins σ H s) (r : Vals vs us) (h : sp (vs ++ dvs) H Q E) :
    wpAny (model X.prog X.w) X.A (call (.ref f) us) (EP X pins σ Q) X.xe s := by
  have r2 := Vals.append r hd
  have hl : (us ++ ds).length = ps.length := by
    rw [← Vals.length r2]
    exact F.len _ _ _ _ h
  refine wpAny_call (codeAny_mono (F.run X.A X.stack s H ⟨us, []⟩ (us ++ ds) (vs ++ dvs) Q E hgd hr I.env0 (hb s us I.kIn hl) r2 h) fun r s' hq => ?_)
  cases r with
  | error e => exact hx pins σ H s e s' I hq
  | ok fl =>
    cases fl with
    | ret v => exact I.after hq
    | _ => exact False.elim hq
variable {x m qual : Str} {st : Stmt} {p pos : Pos} {e : Expr} {es : List Expr} {t : TA}
abbrev FnGAt (P : Program) (w : World) (K : PySem.W.Frag) (mg : Str → Option Value) (base : Heap) (CX : CXT) (k : Nat) (a : Addr) (ps : List Str) (sp : Sp) : Prop := FnG P w K mg base CX k a (fdOf K a) ps sp
theorem pe_fnG (g : GFn X.K X.mg x st ps) (F : FnGAt X.prog X.w X.K X.mg X.base CX k (He.ga X.K x) ps sp) (hgd : X.A.guards = some []) (hr : Room k X.A) (ha : PA X (e :: es) t) (hx : Passes CX X E := by first | exact pass0 | exact passL) (hg : Gl X x := by rfl)
    (hdb : (x == ("__debug__" : Str)) = false := by decide) (he : starEach (e :: es) X.env = (false, eval e X.env) :: starEach es X.env := by rfl) (hpl : (backTo pos (starEach es X.env)).any (·.1) = false := by rfl) :
    PE X (.Call (.Name x p) (e :: es) [] pos) (tCall sp [] E t) := by
  refine ⟨fun pins s σ H Q I h => ?_⟩
  refine wpAny_Call_Name_kw ?_
  refine ld_glob I hg g.m ?_ hdb
  refine PySem.W.callWith_K I.ok.mod.kin g.f.kp (thn (ha.run pos pins s σ H (fun vs H1 => sp (vs ++ []) H1 Q E) I h) ?_) he hpl
  rintro us s1 ⟨vs, H1, I1, r, q⟩
  exact ⟨I1.kIn, run_fnG F hgd hr g.b .nil hx I1 r q⟩
/-- repr of data -/
def rReprD (K : PySem.W.Frag) : List V → Hp → VK → Prop := fun xs H Q => ∃ (a : Addr) (d : PyData), xs = [.ref a] ∧ Dp K H (.ref a) d ∧ d.showable = true ∧ d.hasDict = false ∧ d.depth < 100 ∧ d.shown.length ≤ sizeLine ∧ Q (.str d.shown) H
theorem cr_reprD (hgd : X.A.guards = some []) (hr : Room k X.A) : CallR X (.builtin "repr") (rReprD X.K) := by
  intro pins s σ H xs us Q I r h
  obtain ⟨a, d, rfl, hd, h1, h2, h3, h4, q⟩ := h
  cases r with
  | cons r1 rr =>
    cases rr
    cases r1
    obtain ⟨as, R⟩ := Dp.reads I d _ _ hd rfl
    have hu := hr.un
    have hz : X.A.units + (d.depth + 1) < cLine := Nat.lt_of_le_of_lt (by omega : X.A.units + (d.depth + 1) ≤ X.A.units + 16 * k + 200) hu
    have hdn : d.hasDict = true → ¬ sysModules ∈ as := fun z => by rw [h2] at z; cases z
    refine repr_of_reads' R h1 hdn hgd hz (fun _ _ e => e) (fun h' u tk hk => ?_) h4
    exact ⟨.str d.shown, H, I.kept hk, ⟨u, rfl⟩, q⟩
end
section
variable {P : Program} {w : World} {K : PySem.W.Frag} {mg mb : Str → Option Value} {k : Nat} {fa a : Addr} {fd : FuncData} {x : Str} {sp : Sp} {s₁ : Shared} {vs : List Value} {ns : List Int}
/-- the list that a law is asked with -/
abbrev scriptO (vs : List Value) : Obj := ⟨.type "list", none, .seq vs.toArray 0, #[]⟩
theorem callG_core (KX : K.In s₁.heap) (hns : s₁.heap.Ns mainGlobals mg) (hb : s₁.heap.Ns builtinsNs mb) (hbb : ∀ x : Str, x ≠ "__name__" → mb x = bootBuiltins x) (hlim : s₁.heap.NoLimit) (hg : s₁.gens = #[]) (ha : s₁.heap.get? a = some (scriptO vs)) (hr : Room k callerA)
    (F : ∀ base : Heap, K.In base → base.Ns mainGlobals mg → FnG P w K mg base CX0 k fa fd [x] sp) (hbind : ∀ (s : Shared) (u : Value), BindsTo s fd ⟨[u], []⟩ [(x, u)]) {H : Hp} (hO : Only H) (hq : sp [.ref a] H (fun v _ => v = .bl true) E0) (hok : HOk P w H s₁.heap) (hA : ∀ b, H b ≠ none → b = a) (hK : H a ≠ none → K.lookup a = none) :
    codeAny (model P w) callerA (Code.call (.ref fa) ⟨[.ref a], []⟩) (fun r s' => r = Except.ok (Flow.ret (.bool true)) ∧ OldK s₁.heap s'.heap ∧ s'.os = s₁.os ∧ AllBare s'.gens) s₁ := by
  have at_ : ∀ {b : Addr} {o : Obj}, s₁.heap.get? b = some o → H b = none → (hidT s₁.heap H).get? b = some o := fun e n => hidT_get e n
  have noA : ∀ {b : Addr} {o : Obj} {es : Array DictEntry} {ep : Nat}, s₁.heap.get? b = some o → o.data = .dict es ep → H b = none := by
    intro b o es ep e d
    cases h : H b with
    | none => rfl
    | some u =>
      obtain rfl := hA b (by rw [h]; intro z; cases z)
      rw [ha] at e
      cases e
      cases d
  have nsK : ∀ {b : Addr} {m : Str → Option Value}, s₁.heap.Ns b m → (hidT s₁.heap H).Ns b m := by
    rintro b m ⟨o, es, ep, e, d, r⟩
    exact ⟨o, es, ep, at_ e (noA e d), d, r⟩
  have hKb : K.In (hidT s₁.heap H) := by
    intro b o e
    refine at_ (KX b o e) ?_
    cases h : H b with
    | none => rfl
    | some u =>
      have hn : H b ≠ none := by rw [h]; intro z; cases z
      obtain rfl := hA b hn
      rw [hK hn] at e
      cases e
  have hM : L2.Mod K mg (hidT s₁.heap H) := ⟨hKb, nsK hns, ⟨mb, nsK hb, hbb⟩, by obtain ⟨mc, h1, h2⟩ := hlim; exact ⟨mc, nsK h1, h2⟩⟩
  have e0 : Env0 P w K mg (hidT s₁.heap H) callerA [] s₁ H := ⟨rfl, hM, fun b o e => of_hidT e, Nat.le_of_eq (hidT_size _ _), trivial, (fun b z => by cases z), hok, AllBare.of_eq hg⟩
  refine codeAny_mono ((F _ hKb (nsK hns)).run callerA [] s₁ H ⟨[.ref a], []⟩ [.ref a] [.ref a] (fun v _ => v = .bl true) E0 rfl hr e0 (hbind s₁ (.ref a)) (.cons rfl .nil) hq) fun r s' h => ?_
  cases r with
  | error e => exact False.elim h
  | ok fl =>
    cases fl with
    | ret u =>
      obtain ⟨v, H', os, bare, un, hok', r', q⟩ := h
      subst q
      cases r'
      refine ⟨rfl, OldK.of_keep fun b o e => ?_, os, bare⟩
      cases h : H b with
      | none => exact un.keep b o e h (fun z => by cases z) (fun z => by cases z)
      | some u =>
        rcases hO b with z | ⟨ob, xs, z⟩
        · rw [h] at z
          cases z
        · have h1 := (hok b _ z).1
          have h2 := (hok' b _ (un.frzs _ _ _ z)).1
          rw [e] at h1
          cases h1
          exact h2
    | _ => exact False.elim h
theorem law_callG (KX : K.In s₁.heap) (hns : s₁.heap.Ns mainGlobals mg) (hb : s₁.heap.Ns builtinsNs mb) (hbb : ∀ x : Str, x ≠ "__name__" → mb x = bootBuiltins x) (hlim : s₁.heap.NoLimit) (hg : s₁.gens = #[]) (ha : s₁.heap.get? a = some (scriptO vs)) (hr : Room k callerA)
    (F : ∀ base : Heap, K.In base → base.Ns mainGlobals mg → FnG P w K mg base CX0 k fa fd [x] sp) (hbind : ∀ (s : Shared) (u : Value), BindsTo s fd ⟨[u], []⟩ [(x, u)]) (hi : IntsAre vs ns) (hl : ns.length ≤ sizeLine) (hsp : ∀ H, Only H → SqL K H a (ns.map V.int) → sp [.ref a] H (fun v _ => v = .bl true) E0) :
    codeAny (model P w) callerA (Code.call (.ref fa) ⟨[.ref a], []⟩) (fun r s' => r = Except.ok (Flow.ret (.bool true)) ∧ OldK s₁.heap s'.heap ∧ s'.os = s₁.os ∧ AllBare s'.gens) s₁ := by
  have rv := vals_ints hi
  have lenV := IntsAre.length hi
  cases h : K.lookup a with
  | none =>
    have hH : ∀ b, (fun b => if b = a then some (HO.frz (scriptO vs) (.lst (ns.map V.int))) else none : Hp) b = none ∨ b = a := by
      intro b
      by_cases hb : b = a
      · exact .inr hb
      · exact .inl (if_neg hb)
    have hO : Only (fun b => if b = a then some (HO.frz (scriptO vs) (.lst (ns.map V.int))) else none) := by
      intro b
      rcases hH b with z | z
      · exact .inl z
      · exact .inr ⟨_, _, if_pos z⟩
    refine callG_core KX hns hb hbb hlim hg ha hr F hbind hO (hsp _ hO (.inl (.inr ⟨_, if_pos rfl⟩))) ?_ ?_ (fun _ => h)
    · intro b u z
      rcases hH b with e | e
      · rw [e] at z
        cases z
      · subst e
        have z : some (HO.frz (scriptO vs) (.lst (ns.map V.int))) = some u := (if_pos rfl).symm.trans z
        cases z
        exact ⟨ha, by rw [List.length_map]; exact hl, vs, 0, rv, ha⟩
    · intro b z
      rcases hH b with e | e
      · exact absurd e z
      · exact e
  | some o =>
    have e := KX a o h
    rw [ha] at e
    cases e
    have hO : Only (fun _ => none) := fun _ => .inl rfl
    refine callG_core KX hns hb hbb hlim hg ha hr F hbind hO (hsp _ hO (.inr ⟨_, vs.toArray, 0, h, rfl, rfl, rfl, ?_, rv⟩)) (fun b u z => by cases z) (fun b z => absurd rfl z) (fun z => absurd rfl z)
    rw [List.size_toArray, lenV]
    exact hl
end
theorem walk_ofG {l : PySem.W.OpenLaw} {n k : Nat} {q : Program} {loose : List Str} {XP : (Str → Option Value) → Heap → Prop} {YP : World → Heap → Prop} {d : DefRec} {x : Str} (hn : l.most = some n) (hn2 : n ≤ sizeLine) (hdf : d.params.defaults = []) (hr : Room k callerA)
    (F : ∀ (w : World) (mg : Str → Option Value) (fa : Addr) (h : Heap), YP w h → h.Ns mainGlobals mg → mg d.name = some (.ref fa) → ∃ (K : PySem.W.Frag) (fd : FuncData) (sp : Sp), K.In h ∧ (∀ (s : Shared) (u : Value), BindsTo s fd ⟨[u], []⟩ [(x, u)]) ∧
      (∀ (H : Hp) (a : Addr) (ns : List Int), ns.length ≤ n → Only H → SqL K H a (ns.map V.int) → sp [.ref a] H (fun v _ => v = .bl true) E0) ∧ ∀ base : Heap, K.In base → base.Ns mainGlobals mg → FnG l.prog w K mg base CX0 k fa fd [x] sp) :
    PySem.W.WalkO q loose XP YP l.row.toRowW d [] fun f vs => call f vs := by
  refine Att.attach_call hn hdf fun w s₀ s₁ mg mb fa o pm cd doc a vs ns G Y ho hd hcd hmg hobj hints hlen hg => ?_
  obtain ⟨K, fd, sp, KX, hb, hsp, hF⟩ := F w mg fa s₁.heap Y G.T.g hmg
  exact law_callG KX G.T.g G.T.b G.T.builtins G.T.nolimit hg hobj hr hF hb hints (Nat.le_trans hlen hn2) fun H hO hS => hsp H a ns hlen hO hS
theorem int_repr_le {i : Int} {k : Nat} (hk : 0 < k) (h : i.natAbs < 2 ^ k) : i.repr.length ≤ k + 1 := by
  cases i with
  | ofNat n => exact Nat.le_succ_of_le (nat_repr_length_le hk h)
  | negSucc n =>
    have h2 := nat_repr_length_le (n := n + 1) hk h
    show ("-" ++ Nat.repr (n + 1)).length ≤ k + 1
    rw [String.length_append]
    have e : ("-" : String).length = 1 := rfl
    omega
theorem shown2 (a b : Int) : (PyData.tuple [.int a, .int b]).shown = tupleText [Str.ofString a.repr, Str.ofString b.repr] := by
  simp [PyData.shown, PyData.shownAll]
theorem shown2_le {a b : Int} {k : Nat} (hk : 0 < k) (ha : a.natAbs < 2 ^ k) (hb : b.natAbs < 2 ^ k) : (PyData.tuple [.int a, .int b]).shown.length ≤ 2 * k + 9 := by
  rw [shown2]
  have h := tupleText_len_le [Str.ofString a.repr, Str.ofString b.repr]
  simp only [List.map, List.sum_cons, List.sum_nil, List.length, PySem.ofString_length] at h
  have h1 := int_repr_le hk ha
  have h2 := int_repr_le hk hb
  omega
theorem i_reprRat {K : PySem.W.Frag} {H : Hp} {Q : VK} {a : Addr} {p : Rat} {k : Nat} (hk : 0 < k) (hk2 : k ≤ 1900) (z : Sz k p) (ha : SqT K H a (rat p)) (h : Q (.str (PyData.tuple [.int p.num, .int p.den]).shown) H) : rReprD K [.ref a] H Q :=
  ⟨a, .tuple [.int p.num, .int p.den], rfl, .tup ha (.cons (.int _) (.cons (.int _) .nil)), by simp [PyData.showable, PyData.showableAll]; exact ⟨Nat.lt_of_lt_of_le (log_lt hk z.1) (by omega), Nat.lt_of_lt_of_le (log_lt hk z.2) (by omega)⟩, by simp [PyData.hasDict, PyData.hasDictAll], by simp [PyData.depth, PyData.depthAll], Nat.le_trans (shown2_le hk z.1 z.den) (Nat.le_trans (by omega : 2 * k + 9 ≤ 10000) (by decide +kernel)), h⟩
section
variable {P : Program} {w : World} {K : PySem.W.Frag} {mg : Str → Option Value} {base : Heap} {x qual : Str} {st : Stmt} {f : Addr} {fd : FuncData} {N ps : List Str} {k : Nat} {sp : Sp}
theorem fun_okG (F : Fun K x qual st f fd) (S : FnScope N ps (defScope st)) (len : ∀ vs H Q E, sp vs H Q E → vs.length = ps.length)
    (hb : ∀ (cdv : Value) (A : Around) (outer : List Env) (s : Shared) (H : Hp) (vs : List V) (Q : VK) (E : XK), A.guards = some [] → Room k (A.deeper (envOfC qual (defScope st) s.heap.objs.size f cdv)) → sp vs H Q E →
      ∃ t, PSs (cxOf CX0 P w K mg base N qual (defScope st) f cdv A outer s H E).nox (defBody st) t ∧ t { nx := fun _ H' => Q .non H', rt := Q } (L2.start N vs) H) : FnG P w K mg base CX0 (k + 1) f fd ps sp := by
  obtain ⟨oc, od, kV, doc, pm, an, cdv, ct, osl, e, hl, hc⟩ := F.ex
  subst e
  refine fn_ofG hl hc S len fun A outer s H vs Q E hg hr h => ?_
  obtain ⟨t, h1, h2⟩ := hb cdv A outer s H vs Q E hg hr h
  exact ⟨t, h1.nox, h2⟩
end
end My

/-! what the helpers of one law promise: loads as sources -/
namespace My
open PySem PySem.Spec PyProof.Rows L2
def spRatio (K : PySem.W.Frag) : Sp := fun vs H Q _ => ∃ (p : Addr) (n : Int), vs = [.ref p] ∧ Pot H p n ∧ n < 900000 ∧
  ∀ (a : Addr) (H' : Hp) (q : Rat), But p H H' → Pot H' p (n + 5) → H a = none → SqT K H' a (rat q) → 0 ≤ q → Sz 30 q → Q (.ref a) H'
def spBeside (K : PySem.W.Frag) (C : Addr) : Sp := fun vs H Q _ => ∃ (s a : Addr) (v r g : Rat), vs = [.ref s, .ref a] ∧ SrcAt K C H s v r ∧ SqT K H a (rat g) ∧ Sz 40 v ∧ Sz 40 r ∧ Sz 40 g ∧ 0 < g ∧
  ∀ H', Same H H' → Q (.bl true) H'
def spJoined (K : PySem.W.Frag) (C : Addr) : Sp := fun vs H Q _ => ∃ (s1 s2 s3 : Addr) (v1 r1 v2 r2 v3 r3 : Rat), vs = [.ref s1, .ref s2, .ref s3] ∧ SrcAt K C H s1 v1 r1 ∧ SrcAt K C H s2 v2 r2 ∧ SrcAt K C H s3 v3 r3 ∧
  Sz 40 v1 ∧ Sz 40 r1 ∧ Sz 40 v2 ∧ Sz 40 r2 ∧ Sz 40 v3 ∧ Sz 40 r3 ∧ 0 < r1 ∧ 0 < r2 ∧ 0 < r3 ∧ ∀ H', Same H H' → Q (.bl true) H'
def spCarried (K : PySem.W.Frag) (C : Addr) : Sp := fun vs H Q _ => ∃ (s1 s2 a : Addr) (v1 r1 v2 r2 g : Rat) (m : Int), vs = [.ref s1, .ref s2, .ref a, .int m] ∧ SrcAt K C H s1 v1 r1 ∧ SrcAt K C H s2 v2 r2 ∧ SqT K H a (rat g) ∧
  Sz 40 v1 ∧ Sz 40 r1 ∧ Sz 40 v2 ∧ Sz 40 r2 ∧ Sz 40 g ∧ 0 ≤ g ∧ 0 ≤ m ∧ m.natAbs < 2 ^ 40 ∧ ∀ H', Same H H' → Q (.bl true) H'
theorem ne_zero {p : Rat} (h : 0 < p) : p ≠ 0 := fun z => by rw [z] at h; exact absurd h (by decide)
theorem add_pos {p q : Rat} (hp : 0 < p) (hq : 0 ≤ q) : 0 < p + q := by grind
theorem quot_pos {p q : Rat} (hp : 0 < p) (hq : 0 < q) : 0 < p / q := by
  rw [Rat.div_def]
  exact Rat.mul_pos hp (Rat.inv_pos.mpr hq)
theorem and3v {A B s c z : Rat} (hs : 0 < s) (h : 0 < B / s + c) (h2 : 0 < B + c * s) : (A / s * c + z * (B / s)) / (B / s + c) = (A * c + z * B) / (B + c * s) := by
  have h1 := ne_zero hs
  have h3 := ne_zero h
  have h4 := ne_zero h2
  grind
theorem and3r {B s c : Rat} (hs : 0 < s) (h : 0 < B / s + c) (h2 : 0 < B + c * s) : (B / s * c) / (B / s + c) = (B * c) / (B + c * s) := by
  have h1 := ne_zero hs
  have h3 := ne_zero h
  have h4 := ne_zero h2
  grind
/-- a load is a source of 0 volts behind 1 / g ohms, side by side -/
theorem beside_v {v r g : Rat} (hr : 0 ≤ r) (hg : 0 < g) : v / (1 + r * g) = (v * (1 / g) + 0 * r) / (r + 1 / g) := by
  have h1 := ne_zero hg
  have h2 := ne_zero (one_pos hr (Rat.le_of_lt hg))
  have h3 := ne_zero (show 0 < r + 1 / g from by have := quot_pos (p := 1) (by decide) hg; grind)
  grind
theorem beside_r {r g : Rat} (hr : 0 ≤ r) (hg : 0 < g) : r / (1 + r * g) = r * (1 / g) / (r + 1 / g) := by
  have h1 := ne_zero hg
  have h2 := ne_zero (one_pos hr (Rat.le_of_lt hg))
  have h3 := ne_zero (show 0 < r + 1 / g from by have := quot_pos (p := 1) (by decide) hg; grind)
  grind
theorem beside_v2 {v r g : Rat} (hr : 0 ≤ r) (hg : 0 < g) : v / (1 + r * g) = (0 * r + v * (1 / g)) / (1 / g + r) := by
  rw [beside_v hr hg, Rat.add_comm (0 * r), Rat.add_comm (1 / g) r]
theorem beside_r2 {r g : Rat} (hr : 0 ≤ r) (hg : 0 < g) : r / (1 + r * g) = 1 / g * r / (1 / g + r) := by
  rw [beside_r hr hg, Rat.mul_comm r, Rat.add_comm (1 / g) r]
theorem same_v {v r : Rat} (hr : 0 < r) : (v * r + v * r) / (r + r) = v := by
  have := ne_zero (show 0 < r + r by grind)
  grind
theorem and_comm_v {v r w u : Rat} : (v * u + w * r) / (r + u) = (w * r + v * u) / (u + r) := by rw [Rat.add_comm (v * u), Rat.add_comm r]
theorem and_comm_r {r u : Rat} : r * u / (r + u) = u * r / (u + r) := by rw [Rat.mul_comm r, Rat.add_comm r]
theorem and_assoc_v {v1 r1 v2 r2 v3 r3 : Rat} (p1 : 0 < r1) (p2 : 0 < r2) (p3 : 0 < r3) : ((v1 * r2 + v2 * r1) / (r1 + r2) * r3 + v3 * (r1 * r2 / (r1 + r2))) / (r1 * r2 / (r1 + r2) + r3) = (v1 * (r2 * r3 / (r2 + r3)) + (v2 * r3 + v3 * r2) / (r2 + r3) * r1) / (r1 + r2 * r3 / (r2 + r3)) := by
  have s1 : 0 < r1 + r2 := add_pos p1 (Rat.le_of_lt p2)
  have s2 : 0 < r2 + r3 := add_pos p2 (Rat.le_of_lt p3)
  have q1 : 0 < r1 * r2 / (r1 + r2) + r3 := add_pos (quot_pos (Rat.mul_pos p1 p2) s1) (Rat.le_of_lt p3)
  have q2 : 0 < r2 * r3 / (r2 + r3) + r1 := add_pos (quot_pos (Rat.mul_pos p2 p3) s2) (Rat.le_of_lt p1)
  have t1 : 0 < r1 * r2 + r3 * (r1 + r2) := add_pos (Rat.mul_pos p1 p2) (Rat.le_of_lt (Rat.mul_pos p3 s1))
  have t2 : 0 < r2 * r3 + r1 * (r2 + r3) := add_pos (Rat.mul_pos p2 p3) (Rat.le_of_lt (Rat.mul_pos p1 s2))
  rw [and3v s1 q1 t1, Rat.add_comm (v1 * (r2 * r3 / (r2 + r3))), Rat.add_comm r1 (r2 * r3 / (r2 + r3)), and3v s2 q2 t2]
  have e1 : (v1 * r2 + v2 * r1) * r3 + v3 * (r1 * r2) = (v2 * r3 + v3 * r2) * r1 + v1 * (r2 * r3) := by grind
  have e2 : r1 * r2 + r3 * (r1 + r2) = r2 * r3 + r1 * (r2 + r3) := by grind
  rw [e1, e2]
theorem and_assoc_r {r1 r2 r3 : Rat} (p1 : 0 < r1) (p2 : 0 < r2) (p3 : 0 < r3) : r1 * r2 / (r1 + r2) * r3 / (r1 * r2 / (r1 + r2) + r3) = r1 * (r2 * r3 / (r2 + r3)) / (r1 + r2 * r3 / (r2 + r3)) := by
  have s1 : 0 < r1 + r2 := add_pos p1 (Rat.le_of_lt p2)
  have s2 : 0 < r2 + r3 := add_pos p2 (Rat.le_of_lt p3)
  have q1 : 0 < r1 * r2 / (r1 + r2) + r3 := add_pos (quot_pos (Rat.mul_pos p1 p2) s1) (Rat.le_of_lt p3)
  have q2 : 0 < r2 * r3 / (r2 + r3) + r1 := add_pos (quot_pos (Rat.mul_pos p2 p3) s2) (Rat.le_of_lt p1)
  have t1 : 0 < r1 * r2 + r3 * (r1 + r2) := add_pos (Rat.mul_pos p1 p2) (Rat.le_of_lt (Rat.mul_pos p3 s1))
  have t2 : 0 < r2 * r3 + r1 * (r2 + r3) := add_pos (Rat.mul_pos p2 p3) (Rat.le_of_lt (Rat.mul_pos p1 s2))
  rw [and3r s1 q1 t1, Rat.mul_comm r1 (r2 * r3 / (r2 + r3)), Rat.add_comm r1 (r2 * r3 / (r2 + r3)), and3r s2 q2 t2]
  have e1 : r1 * r2 * r3 = r2 * r3 * r1 := by grind
  have e2 : r1 * r2 + r3 * (r1 + r2) = r2 * r3 + r1 * (r2 + r3) := by grind
  rw [e1, e2]
theorem Sz.andV {j : Nat} {v r w u : Rat} (h1 : Sz j v) (h2 : Sz j r) (h3 : Sz j w) (h4 : Sz j u) (h : 0 < r + u) : Sz (8 * j + 2) ((v * u + w * r) / (r + u)) :=
  ((((h1.mul h4).add (h3.mul h2)).mono (k := 4 * j + 1) (by omega)).div ((h2.add h4).mono (by omega)) h).mono (by omega)
theorem Sz.andR {j : Nat} {r u : Rat} (h2 : Sz j r) (h4 : Sz j u) (h : 0 < r + u) : Sz (8 * j + 2) (r * u / (r + u)) :=
  (((h2.mul h4).mono (k := 4 * j + 1) (by omega)).div ((h2.add h4).mono (by omega)) h).mono (by omega)
theorem strong_same {v r : Rat} (hv : 0 ≤ v) (hr : 0 < r) : strong ((v * r + v * r) / (r + r)) (r * r / (r + r)) v r = true := by
  rw [same_v hr]
  refine strong_iff.mpr ⟨Rat.le_refl, Rat.mul_le_mul_of_nonneg_left ?_ hv⟩
  have h1 := ne_zero (show 0 < r + r by grind)
  have e : r * r / (r + r) = r / 2 := by grind
  rw [e]
  grind
theorem frac_mul {a b c d : Rat} (hb : 0 < b) (hd : 0 < d) : a / b * (c / d) = a * c * (1 / (b * d)) := by
  have h1 := ne_zero hb
  have h2 := ne_zero hd
  grind
theorem strong_under {v r w u g : Rat} (h : strong v r w u = true) (hr : 0 ≤ r) (hu : 0 ≤ u) (hg : 0 ≤ g) : strong (v / (1 + r * g)) (r / (1 + r * g)) (w / (1 + u * g)) (u / (1 + u * g)) = true := by
  refine strong_iff.mpr ⟨Rat.not_lt.mp (due_read h hr hu hg), ?_⟩
  have p1 := one_pos hr hg
  have p2 := one_pos hu hg
  rw [frac_mul p2 p1, frac_mul p1 p2, Rat.mul_comm (1 + u * g)]
  exact Rat.mul_le_mul_of_nonneg_right (strong_iff.mp h).2 (Rat.le_of_lt (quot_pos (by decide) (Rat.mul_pos p1 p2)))
theorem strong_many {v r w u m : Rat} (h : strong v r w u = true) (hm : 0 ≤ m) : strong (v * m) r (w * m) u = true := by
  obtain ⟨h1, h2⟩ := strong_iff.mp h
  refine strong_iff.mpr ⟨Rat.mul_le_mul_of_nonneg_right h1 hm, ?_⟩
  have := Rat.mul_le_mul_of_nonneg_right h2 hm
  have e1 : w * m * r = w * r * m := by grind
  have e2 : v * m * u = v * u * m := by grind
  rw [e1, e2]
  exact this
theorem forq_range {lo : Int} {n : Nat} {g : TG} {tb : TS} {D : Ends} {σ : L2.St} {H : Hp} (Pv : Nat → L2.St → Hp → Prop) (h0 : Pv 0 σ H) (hs : ∀ i σ H, i < n → Pv i σ H → g (.int (lo + i)) σ H fun σ2 H2 => tb { D with nx := Pv (i + 1), ct := Pv (i + 1), bk := D.nx } σ2 H2) (hd : ∀ σ H, Pv n σ H → D.nx σ H) : ForQ (Itr lo n) g tb D σ H := for_range Pv h0 hs hd
theorem num_pos {p : Rat} (h : 0 < p.num) : 0 < p := by
  refine (Rat.lt_iff 0 p).mpr ?_
  simpa using h
/-- a source of ohms above 0 -/
def Src4 (K : PySem.W.Frag) (C : Addr) (H : Hp) (x : V) : Prop := ∃ s v r, x = .ref s ∧ SrcAt K C H s v r ∧ Sz 40 v ∧ Sz 40 r ∧ 0 < r
/-- a ratio above 0 -/
def Rat4 (K : PySem.W.Frag) (H : Hp) (x : V) : Prop := ∃ a g, x = .ref a ∧ SqT K H a (rat g) ∧ Sz 20 g ∧ 0 < g
section
variable {K : PySem.W.Frag} {C p : Addr} {H H' : Hp} {x : V} {n : Int} {ys : List V}
theorem Src4.same (h : Src4 K C H x) (S : Same H H') : Src4 K C H' x := by
  obtain ⟨s, v, r, e, h1, h2⟩ := h
  exact ⟨s, v, r, e, h1.same S, h2⟩
theorem Src4.but (h : Src4 K C H x) (hP : Pot H p n) (B : But p H H') : Src4 K C H' x := by
  obtain ⟨s, v, r, e, h1, h2⟩ := h
  exact ⟨s, v, r, e, h1.but hP B, h2⟩
theorem Src4.butL (h : Src4 K C H x) (hp : H p = some (.lst ys)) (B : But p H H') : Src4 K C H' x := by
  obtain ⟨s, v, r, e, h1, h2⟩ := h
  exact ⟨s, v, r, e, h1.butL hp B, h2⟩
theorem Rat4.same (h : Rat4 K H x) (S : Same H H') : Rat4 K H' x := by
  obtain ⟨a, g, e, h1, h2⟩ := h
  exact ⟨a, g, e, S.seqT h1, h2⟩
theorem Rat4.but (h : Rat4 K H x) (hP : Pot H p n) (B : But p H H') : Rat4 K H' x := by
  obtain ⟨a, g, e, h1, h2⟩ := h
  exact ⟨a, g, e, hP.but B h1, h2⟩
theorem Rat4.butL (h : Rat4 K H x) (hp : H p = some (.lst ys)) (B : But p H H') : Rat4 K H' x := by
  obtain ⟨a, g, e, h1, h2⟩ := h
  exact ⟨a, g, e, seqT_but hp B h1, h2⟩
end
theorem under_two {q v r g h : Rat} (hr : 0 ≤ r) (hg : 0 ≤ g) (hh : 0 ≤ h) : q / (1 + r * g) / (1 + r / (1 + r * g) * h) = q / (1 + r * (g + h)) := by
  have p1 := one_pos hr hg
  have h1 := ne_zero p1
  have h2 := ne_zero (one_pos (div_nn hr p1) hh)
  have h3 := ne_zero (one_pos hr (add_nn hg hh))
  grind
theorem under_zero {v r : Rat} : v / (1 + r * 0) = v := by grind
theorem under_firm {v g : Rat} : v / (1 + 0 * g) = v := by grind
theorem many_at {v r g m : Rat} : v * m / (1 + r * g) = m * (v / (1 + r * g)) := by grind
theorem and_firm_v {v r : Rat} (hr : 0 < r) : (v * 0 + v * r) / (r + 0) = v := by
  have := ne_zero hr
  grind
theorem and_firm_r {r : Rat} (hr : 0 < r) : r * 0 / (r + 0) = 0 := by
  have := ne_zero hr
  grind
theorem strong_firm {v r : Rat} (hv : 0 ≤ v) (hr : 0 ≤ r) : strong v 0 v r = true := by
  refine strong_iff.mpr ⟨Rat.le_refl, ?_⟩
  have := Rat.mul_nonneg hv hr
  grind
end My

/-! own layer, 6: what the written part holds, read off once -/
namespace My
open PySem PySem.Spec PyProof.Rows L2
/-- a def: where its function stands, what it is -/
structure Df where
  adr : PySem.W.Frag → Addr
  name : Str
  qual : Str
  st : Stmt
def Df.val (d : Df) : He.FnW := some (d.name, d.qual, defArgs d.st, .stmts (defBody d.st), defScope d.st, mainGlobals, [], builtinsNs)
def dfV (K : PySem.W.Frag) (d : Df) : He.FnW := match K.lookup (d.adr K) with
  | some ⟨_, _, .func fd, _⟩ => some (fd.name, fd.qualname, fd.params, fd.body, fd.scope, fd.globals, fd.closure, fd.builtins)
  | _ => none
def dfB (K : PySem.W.Frag) (d : Df) : Bool := PySem.W.keepIn K (.ref (d.adr K)) && match K.lookup (d.adr K) with
  | some ⟨_, _, .func fd, _⟩ => PySem.W.codeIn K fd.code d.qual && match fd.defaults with
    | .none => true
    | _ => false
  | _ => false
abbrev HV : Type := Bool × List He.FnW
def obsK (ex : PySem.W.Frag → Bool) (ds : List Df) (K : PySem.W.Frag) : HV := (ex K && ds.all (dfB K), ds.map (dfV K))
def valK (ds : List Df) : HV := (true, ds.map Df.val)
def frK (n : Nat) (g : Addr → Option Obj) : PySem.W.Frag := He.frT g (sysModules :: He.asD g n)
def hook (n : Nat) (ex : PySem.W.Frag → Bool) (ds : List Df) : PySem.W.Hook where
  α := HV
  obs s := obsK ex ds (frK n s.heap.get?)
  val _ := valK ds
  says _ h := ∃ K : PySem.W.Frag, K.In h ∧ obsK ex ds K = valK ds
  of _ s e := ⟨_, He.frT_in, e⟩
  keeps _ _ _ := fun ⟨K, i, c⟩ k => ⟨K, fun a o e => k a o (i a o e), c⟩
def obT (n : Nat) (ex : PySem.W.Frag → Bool) (ds : List Df) (s : PySem.W.SharedT) : HV := obsK ex ds (frK n (HandSHeadRun.getT s))
theorem obT_eq {n : Nat} {ex : PySem.W.Frag → Bool} {ds : List Df} (s : PySem.W.SharedT) : obT n ex ds s = (hook n ex ds).obs s.abs := by
  unfold obT
  rw [funext (HandSHeadRun.getT_eq s)]
  rfl
section
variable {K : PySem.W.Frag} {ex : PySem.W.Frag → Bool} {ds : List Df} {d : Df}
theorem says_ex (c : obsK ex ds K = valK ds) : ex K = true := (He.ba (congrArg Prod.fst c)).1
theorem says_fun (c : obsK ex ds K = valK ds) (i : Nat) (h : ds[i]? = some d) : Fun K d.name d.qual d.st (d.adr K) (fdOf K (d.adr K)) := by
  have e1 : dfB K d = true := List.all_eq_true.mp (He.ba (congrArg Prod.fst c)).2 d (List.mem_of_getElem? h)
  have e2 : dfV K d = d.val := by
    have e := congrArg (fun z : HV => z.2[i]?) c
    have e : (ds.map (dfV K))[i]? = (ds.map Df.val)[i]? := e
    rw [List.getElem?_map, List.getElem?_map, h] at e
    exact Option.some.inj e
  unfold dfB at e1
  obtain ⟨k1, k2⟩ := He.ba e1
  unfold dfV at e2
  split at e2
  · rename_i oc od fd osl hl
    rw [hl] at k2
    obtain ⟨k3, k4⟩ := He.ba k2
    have hd : fd.defaults = .none := by
      revert k4
      cases fd.defaults <;> intro k4 <;> first | rfl | cases k4
    have e3 := Option.some.inj e2
    simp only [Prod.mk.injEq] at e3
    obtain ⟨f1, f2, f3, f4, f5, f6, f7, f8⟩ := e3
    have ef : fdOf K (d.adr K) = fd := by
      unfold fdOf
      rw [hl]
    rw [ef]
    refine ⟨⟨oc, od, fd.kwdefaults, fd.doc, fd.pyModule, fd.annotations, fd.code, fd.closureTuple, osl, ?_, hl, k3⟩, k1⟩
    cases fd
    simp only at f1 f2 f3 f4 f5 f6 f7 f8 hd
    subst f1 f2 f3 f4 f5 f6 f7 f8 hd
    rfl
  · cases e2
/-- a def without defaults: by its written arguments -/
theorem fun_binds {x qual : Str} {st : Stmt} {f : Addr} {fd : FuncData} {ps : List Str} (F : Fun K x qual st f fd)
    (h : ∀ (kV doc pm : Value) (an : Option Addr) (cdv ct : Value) (us : List Value), us.length = ps.length → bindArgs (PySem.W.fnOf x qual (defArgs st) (defBody st) (defScope st) Value.none kV doc pm an cdv ct) { pos := us } = pure (ps.zip us)) : L2.Binds K fd ps [] := by
  obtain ⟨oc, od, kV, doc, pm, an, cdv, ct, osl, e, hl, hc⟩ := F.ex
  subst e
  exact Binds.all (h kV doc pm an cdv ct)
/-! what is asked beside He's facts -/
def insB (K : PySem.W.Frag) (x : Str) : Bool := He.eqO (PySem.W.findIn K (.ref (He.ga K x)) "__class__") (some (some (.builtin "object.__class__"))) && (He.eqO (PySem.W.specialIn K (.builtin "object.__class__") "__get__") (some (some (.builtin "getset_descriptor.__get__"))) &&
  (decide (PySem.W.takesIn K (.builtin "object.__class__") = some true) && decide (PySem.W.mroIn K (He.ga K x) (.type "object") = some true)))
theorem insB_ok {x : Str} (h : insB K x = true) : InsC K (He.ga K x) := by
  obtain ⟨h1, h⟩ := He.ba h
  obtain ⟨h2, h⟩ := He.ba h
  obtain ⟨h3, h4⟩ := He.ba h
  exact ⟨He.eqO_ok h1, He.eqO_ok h2, of_decide_eq_true h3, of_decide_eq_true h4⟩
def propB (K : PySem.W.Frag) (x m : Str) : Bool := He.eqO (PySem.W.findIn K (.ref (He.ga K x)) m) (some (some (.ref (He.ma K (He.ga K x) m)))) && (He.eqO (PySem.W.specialIn K (.ref (He.ma K (He.ga K x) m)) "__get__") (some (some (.builtin "property.__get__"))) &&
  (decide (PySem.W.takesIn K (.ref (He.ma K (He.ga K x) m)) = some true) && match PySem.W.recIn K (He.ma K (He.ga K x) m) "property" with
    | some (.ref _ :: _) => true
    | _ => false))
theorem propB_ok {x m : Str} (h : propB K x m = true) : PropOf K (He.ga K x) m (He.ma K (He.ga K x) m) (gtOf K (He.ma K (He.ga K x) m)) := by
  obtain ⟨h1, h⟩ := He.ba h
  obtain ⟨h2, h⟩ := He.ba h
  obtain ⟨h3, h4⟩ := He.ba h
  refine ⟨He.eqO_ok h1, He.eqO_ok h2, of_decide_eq_true h3, ?_⟩
  unfold gtOf
  split at h4
  · rename_i g rest e
    rw [e]
    exact ⟨rest, rfl⟩
  · cases h4
def bltB (K : PySem.W.Frag) (x : Str) (b : String) : Bool := He.eqO (PySem.W.nsIn K mainGlobals x) (some (some (.builtin b)))
theorem bltB_ok {h : Heap} {mg : Str → Option Value} (X : K.In h) (G : h.Ns mainGlobals mg) {x : Str} {b : String} (c : bltB K x b = true) : mg x = some (.builtin b) := PySem.W.mg_of X G (He.eqO_ok c)
theorem all_get {α : Type} {p : α → Bool} {l : List α} (h : l.all p = true) (i : Nat) {x : α} (e : l[i]? = some x) : p x = true := List.all_eq_true.mp h x (List.mem_of_getElem? e)
theorem gfn_of {mg : Str → Option Value} {h : Heap} {x : Str} {st : Stmt} {ps : List Str} (X : K.In h) (G : h.Ns mainGlobals mg) (c : He.Fa.ok K (.glo x) = true) (F : Fun K x x st (He.ga K x) (fdOf K (He.ga K x)))
    (b : ∀ (kV doc pm : Value) (an : Option Addr) (cdv ct : Value) (us : List Value), us.length = ps.length → bindArgs (PySem.W.fnOf x x (defArgs st) (defBody st) (defScope st) Value.none kV doc pm an cdv ct) { pos := us } = pure (ps.zip us)) : GFn K mg x st ps :=
  ⟨He.glo_ok X G c, F, fun_binds F b⟩
theorem gme_of {x m qual : Str} {st : Stmt} {ps : List Str} (c : He.Fa.ok K (.meth x m) = true) (F : Fun K m qual st (He.ma K (He.ga K x) m) (fdOf K (He.ma K (He.ga K x) m)))
    (b : ∀ (kV doc pm : Value) (an : Option Addr) (cdv ct : Value) (us : List Value), us.length = ps.length → bindArgs (PySem.W.fnOf m qual (defArgs st) (defBody st) (defScope st) Value.none kV doc pm an cdv ct) { pos := us } = pure (ps.zip us)) : GMe K (He.ga K x) m qual st ps :=
  ⟨He.meth_ok c, F, fun_binds F b⟩
theorem gop_of {x m qual : Str} {st : Stmt} (c : He.Fa.ok K (.meth x m) = true) (F : Fun K m qual st (He.ma K (He.ga K x) m) (fdOf K (He.ma K (He.ga K x) m)))
    (b : ∀ (kV doc pm : Value) (an : Option Addr) (cdv ct : Value) (us : List Value), us.length = 2 → bindArgs (PySem.W.fnOf m qual (defArgs st) (defBody st) (defScope st) Value.none kV doc pm an cdv ct) { pos := us } = pure ((["self", "other"] : List Str).zip us)) : GOp K (He.ga K x) m qual st :=
  ⟨(He.meth_ok c).at_, (He.meth_ok c).fn, F, fun_binds F b⟩
theorem gpr_of {x m qual : Str} {st : Stmt} (c : propB K x m = true) (F : Fun K m qual st (gtOf K (He.ma K (He.ga K x) m)) (fdOf K (gtOf K (He.ma K (He.ga K x) m))))
    (b : ∀ (kV doc pm : Value) (an : Option Addr) (cdv ct : Value) (us : List Value), us.length = 1 → bindArgs (PySem.W.fnOf m qual (defArgs st) (defBody st) (defScope st) Value.none kV doc pm an cdv ct) { pos := us } = pure ((["self"] : List Str).zip us)) : GPr K (He.ga K x) m qual st :=
  ⟨propB_ok c, F, fun_binds F b⟩
theorem gmk_of {mg : Str → Option Value} {h : Heap} {x : Str} (X : K.In h) (G : h.Ns mainGlobals mg) (c : He.Fa.ok K (.glo x) = true) (m : He.Fa.ok K (.mkr x) = true) : GMk K mg x := ⟨He.glo_ok X G c, He.mkr_ok m⟩
end
end My

/-! own layer, 11: small values of data in new objects, and their repr -/
namespace My
open PySem PySem.Spec PyProof.Rows L2
inductive Pw (R : V → PyData → Prop) : List V → List PyData → Prop
  | nil : Pw R [] []
  | cons {v : V} {vs : List V} {d : PyData} {ds : List PyData} : R v d → Pw R vs ds → Pw R (v :: vs) (d :: ds)
section
variable {R S : V → PyData → Prop} {xs : List V} {ds : List PyData}
theorem Pw.imp (h : ∀ v d, R v d → S v d) (p : Pw R xs ds) : Pw S xs ds := by
  induction p with
  | nil => exact .nil
  | cons a _ ih => exact .cons (h _ _ a) ih
theorem Pw.snoc {v : V} {d : PyData} (p : Pw R xs ds) (h : R v d) : Pw R (xs ++ [v]) (ds ++ [d]) := by
  induction p with
  | nil => exact .cons h .nil
  | cons a _ ih => exact .cons a ih
theorem Pw.len (p : Pw R xs ds) : xs.length = ds.length := by
  induction p with
  | nil => rfl
  | cons _ _ ih => simp [ih]
end
/-- a value that is no object -/
def Lf (v : V) (d : PyData) : Prop := (v = .non ∧ d = .none) ∨ (∃ b, v = .bl b ∧ d = .bool b) ∨ (∃ i : Int, v = .int i ∧ d = .int i ∧ i.natAbs < 2 ^ 400) ∨ ∃ x : Str, v = .str x ∧ d = .str x ∧ (reprText x).length ≤ 60
/-- a value of data, at most n deep, its objects at addresses of F -/
def Dv (F : Addr → Prop) (H : Hp) : Nat → V → PyData → Prop
  | 0 => Lf
  | n + 1 => fun v d => Lf v d ∨ ∃ a, v = .ref a ∧ F a ∧ ((∃ xs ds, d = .list ds ∧ H a = some (.lst xs) ∧ Pw (Dv F H n) xs ds ∧ xs.length ≤ 4) ∨ (∃ xs ds, d = .tuple ds ∧ H a = some (.tup xs) ∧ Pw (Dv F H n) xs ds ∧ xs.length ≤ 4) ∨
      (d = .dict [] ∧ H a = some (.dK [])) ∨ ∃ (k : Str) (v' : V) (d' : PyData), d = .dict [(.str k, d')] ∧ H a = some (.dK [(.inr k, v')]) ∧ Dv F H n v' d' ∧ (reprText k).length ≤ 60)
section
variable {F G : Addr → Prop} {H H' : Hp}
theorem Dv.imp (hF : ∀ a, F a → G a) (hH : ∀ a o, F a → H a = some o → H' a = some o) : ∀ (n : Nat) (v : V) (d : PyData), Dv F H n v d → Dv G H' n v d
  | 0, _, _, h => h
  | n + 1, v, d, h => by
    rcases h with h | ⟨a, e, f, h⟩
    · exact .inl h
    refine .inr ⟨a, e, hF a f, ?_⟩
    rcases h with ⟨xs, ds, e1, e2, p, l⟩ | ⟨xs, ds, e1, e2, p, l⟩ | ⟨e1, e2⟩ | ⟨k, v', d', e1, e2, p, l⟩
    · exact .inl ⟨xs, ds, e1, hH _ _ f e2, p.imp (Dv.imp hF hH n), l⟩
    · exact .inr (.inl ⟨xs, ds, e1, hH _ _ f e2, p.imp (Dv.imp hF hH n), l⟩)
    · exact .inr (.inr (.inl ⟨e1, hH _ _ f e2⟩))
    · exact .inr (.inr (.inr ⟨k, v', d', e1, hH _ _ f e2, Dv.imp hF hH n _ _ p, l⟩))
theorem Dv.up : ∀ (n : Nat) (v : V) (d : PyData), Dv F H n v d → Dv F H (n + 1) v d
  | 0, _, _, h => .inl h
  | n + 1, v, d, h => by
    rcases h with h | ⟨a, e, f, h⟩
    · exact .inl h
    refine .inr ⟨a, e, f, ?_⟩
    rcases h with ⟨xs, ds, e1, e2, p, l⟩ | ⟨xs, ds, e1, e2, p, l⟩ | ⟨e1, e2⟩ | ⟨k, v', d', e1, e2, p, l⟩
    · exact .inl ⟨xs, ds, e1, e2, p.imp (Dv.up n), l⟩
    · exact .inr (.inl ⟨xs, ds, e1, e2, p.imp (Dv.up n), l⟩)
    · exact .inr (.inr (.inl ⟨e1, e2⟩))
    · exact .inr (.inr (.inr ⟨k, v', d', e1, e2, Dv.up n _ _ p, l⟩))
theorem Dv.ups {n : Nat} {v : V} {d : PyData} (h : Dv F H n v d) : ∀ j, Dv F H (n + j) v d
  | 0 => h
  | j + 1 => Dv.up _ _ _ (h.ups j)
theorem Dv.same {n : Nat} {v : V} {d : PyData} (h : Dv F H n v d) (S : Same H H') : Dv F H' n v d := h.imp (fun _ f => f) (fun a o _ e => S a o e)
theorem Dv.but {n : Nat} {p : Addr} {v : V} {d : PyData} (h : Dv F H n v d) (hp : ¬ F p) (B : But p H H') : Dv F H' n v d := h.imp (fun _ f => f) (fun a o f e => B a o (fun z => hp (z ▸ f)) e)
theorem Dv.flat {n : Nat} {v : V} {d : PyData} (h : Dv F H n v d) : (∃ a, v = .ref a) ∨ Lf v d := by
  cases n with
  | zero => exact .inr h
  | succ n =>
    rcases h with h | ⟨a, e, _⟩
    · exact .inr h
    · exact .inl ⟨a, e⟩
end
/-! ### its size -/
def bd : Nat → Nat
  | 0 => 500
  | n + 1 => 4 * bd n + 100
theorem bd_ge : ∀ n, 500 ≤ bd n
  | 0 => Nat.le_refl _
  | n + 1 => by have := bd_ge n; show 500 ≤ 4 * bd n + 100; omega
theorem Lf.size {v : V} {d : PyData} (h : Lf v d) : d.showable = true ∧ d.depth = 0 ∧ d.shown.length ≤ 500 := by
  rcases h with ⟨_, rfl⟩ | ⟨b, _, rfl⟩ | ⟨i, _, rfl, hi⟩ | ⟨x, _, rfl, hx⟩
  · exact ⟨rfl, rfl, by decide +kernel⟩
  · cases b <;> exact ⟨rfl, rfl, by decide +kernel⟩
  · refine ⟨decide_eq_true (Nat.lt_of_lt_of_le (log_lt (k := 400) (by omega) hi) (by omega)), rfl, ?_⟩
    have := int_repr_le (k := 400) (by omega) hi
    show (Str.ofString i.repr).length ≤ 500
    rw [PySem.ofString_length]
    omega
  · exact ⟨rfl, rfl, Nat.le_trans hx (by decide)⟩
theorem all_size {R : V → PyData → Prop} {n b : Nat} (hR : ∀ v d, R v d → d.showable = true ∧ d.depth ≤ n ∧ d.shown.length ≤ b) {xs : List V} {ds : List PyData} (p : Pw R xs ds) :
    PyData.showableAll ds = true ∧ PyData.depthAll ds ≤ n ∧ ((PyData.shownAll ds).map (·.length)).sum ≤ b * ds.length ∧ (PyData.shownAll ds).length = ds.length := by
  induction p with
  | nil => exact ⟨rfl, Nat.zero_le _, Nat.zero_le _, rfl⟩
  | @cons v vs d ds h _ ih =>
    obtain ⟨a1, a2, a3⟩ := hR v d h
    obtain ⟨b1, b2, b3, b4⟩ := ih
    refine ⟨by simp [PyData.showableAll, a1, b1], by simp only [PyData.depthAll]; omega, ?_, by simp [PyData.shownAll, b4]⟩
    simp only [PyData.shownAll, List.map_cons, List.sum_cons, List.length_cons, Nat.mul_add]
    omega
theorem Dv.size {F : Addr → Prop} {H : Hp} : ∀ (n : Nat) (v : V) (d : PyData), Dv F H n v d → d.showable = true ∧ d.depth ≤ n ∧ d.shown.length ≤ bd n
  | 0, v, d, h => by
    obtain ⟨a, b, c⟩ := Lf.size h
    exact ⟨a, by omega, c⟩
  | n + 1, v, d, h => by
    rcases h with h | ⟨a, e, f, h⟩
    · obtain ⟨a, b, c⟩ := Lf.size h
      exact ⟨a, by omega, Nat.le_trans c (bd_ge _)⟩
    have hb : bd (n + 1) = 4 * bd n + 100 := rfl
    rcases h with ⟨xs, ds, rfl, e2, p, l⟩ | ⟨xs, ds, rfl, e2, p, l⟩ | ⟨rfl, e2⟩ | ⟨k, v', d', rfl, e2, p, l⟩
    · obtain ⟨a1, a2, a3, a4⟩ := all_size (Dv.size n) p
      have hl := p.len
      have hm : bd n * ds.length ≤ bd n * 4 := Nat.mul_le_mul_left _ (by omega)
      have ht := listText_len_le (PyData.shownAll ds)
      refine ⟨by simpa [PyData.showable] using a1, by simp only [PyData.depth]; omega, ?_⟩
      show (listText (PyData.shownAll ds)).length ≤ _
      omega
    · obtain ⟨a1, a2, a3, a4⟩ := all_size (Dv.size n) p
      have hl := p.len
      have hm : bd n * ds.length ≤ bd n * 4 := Nat.mul_le_mul_left _ (by omega)
      have ht := tupleText_len_le (PyData.shownAll ds)
      refine ⟨by simpa [PyData.showable] using a1, by simp only [PyData.depth]; omega, ?_⟩
      show (tupleText (PyData.shownAll ds)).length ≤ _
      omega
    · refine ⟨rfl, by simp [PyData.depth, PyData.depthKv], ?_⟩
      have ht := dictText_len_le []
      show (dictText []).length ≤ _
      simp only [List.map_nil, List.sum_nil, List.length_nil] at ht
      omega
    · obtain ⟨a1, a2, a3⟩ := Dv.size n _ _ p
      refine ⟨by simp [PyData.showable, PyData.showableKv, a1], by simp only [PyData.depth, PyData.depthKv]; omega, ?_⟩
      have ht := dictText_len_le [PyData.shown (.str k) ++ ": " ++ PyData.shown d']
      show (dictText [PyData.shown (.str k) ++ ": " ++ PyData.shown d']).length ≤ _
      simp only [List.map_cons, List.map_nil, List.sum_cons, List.sum_nil, List.length_cons, List.length_nil, strLen_append] at ht
      have e1 : (PyData.shown (.str k)).length ≤ 60 := l
      have e3 : ((": " : String) : Str).length = 2 := rfl
      omega
/-! ### as it stands in the heap -/
/-- the dict of the modules is none of these objects -/
def SysD (K : PySem.W.Frag) : Prop := ∃ (c : Value) (x : Option Addr) (es : Array DictEntry) (ep : Nat) (sl : Array (Option Value)), K.lookup sysModules = some ⟨c, x, .dict es ep, sl⟩
section
variable {X : Cx} {pins : List (Addr × Obj)} {σ : L2.St} {F : Addr → Prop} {H : Hp} {s : Shared}
theorem readsAll_of {R : V → PyData → Prop} (hR : ∀ v d u, R v d → RelV v u → ∃ as, Reads s.heap u d as ∧ sysModules ∉ as) {xs : List V} {ds : List PyData} (p : Pw R xs ds) : ∀ {us : List Value}, Vals xs us → ∃ as, ReadsAll s.heap us ds as ∧ sysModules ∉ as := by
  induction p with
  | nil =>
    intro us r
    cases r
    exact ⟨_, .nil, by simp⟩
  | cons h _ ih =>
    intro us r
    cases r with
    | cons r1 r2 =>
      obtain ⟨as, q1, m1⟩ := hR _ _ _ h r1
      obtain ⟨bs, q2, m2⟩ := ih r2
      exact ⟨_, .cons q1 q2, by simp only [List.mem_append, not_or]; exact ⟨m1, m2⟩⟩
theorem Dv.reads (I : L2.Inv X pins σ H s) (hS : SysD X.K) : ∀ (n : Nat) (v : V) (d : PyData) (u : Value), Dv F H n v d → RelV v u → ∃ as, Reads s.heap u d as ∧ sysModules ∉ as := by
  have leaf : ∀ (v : V) (d : PyData) (u : Value), Lf v d → RelV v u → ∃ as, Reads s.heap u d as ∧ sysModules ∉ as := by
    intro v d u h r
    rcases h with ⟨rfl, rfl⟩ | ⟨b, rfl, rfl⟩ | ⟨i, rfl, rfl, _⟩ | ⟨x, rfl, rfl, _⟩
    · cases r
      exact ⟨_, .none, by simp⟩
    · cases r
      exact ⟨_, .bool b, by simp⟩
    · obtain ⟨t, rfl⟩ := r
      exact ⟨_, .int i t, by simp⟩
    · obtain ⟨t, rfl⟩ := r
      exact ⟨_, .str x t, by simp⟩
  intro n
  induction n with
  | zero => exact leaf
  | succ n ih =>
    intro v d u h r
    rcases h with h | ⟨a, rfl, f, h⟩
    · exact leaf v d u h r
    obtain rfl : u = Value.ref a := r
    rcases h with ⟨xs, ds, rfl, e2, p, l⟩ | ⟨xs, ds, rfl, e2, p, l⟩ | ⟨rfl, e2⟩ | ⟨k, v', d', rfl, e2, p, l⟩
    · obtain ⟨_, its, m, rv, ho⟩ := I.hok a _ e2
      obtain ⟨as, q, hm⟩ := readsAll_of ih p rv
      refine ⟨_, .list ho rfl rfl (by simpa using q), ?_⟩
      have na : sysModules ≠ a := by
        intro z
        obtain ⟨c, x, es, ep, sl, hk⟩ := hS
        have h1 := I.kIn _ _ hk
        rw [z, ho] at h1
        cases h1
      simp only [List.mem_cons, not_or]
      exact ⟨na, hm⟩
    · obtain ⟨its, rv, ⟨o, ho, hc, m, hd⟩, _⟩ := I.tuple (.inl (.inl e2) : SqT X.K H a xs)
      obtain ⟨as, q, hm⟩ := readsAll_of ih p rv
      exact ⟨_, .tuple ho hc hd (by simpa using q), hm⟩
    · obtain ⟨_, na, vs, kv, o, es, ep, ho, ⟨hc, _⟩, hd, _, hp, _⟩ := dk_of I.hok e2
      cases kv
      have hn : es.toList = [] := by
        cases h : es.toList with
        | nil => rfl
        | cons a b => rw [h] at hp; cases hp
      refine ⟨_, .dict (kvs := []) ho hc hd (by rw [hn]; exact .nil) (by rw [hn]; exact .nil), ?_⟩
      simp only [List.append_nil, List.mem_cons, List.not_mem_nil, or_false]
      exact fun z => by rw [z] at na; simp at na
    · obtain ⟨_, na, vs, kv, o, es, ep, ho, ⟨hc, _⟩, hd, _, hp, _⟩ := dk_of I.hok e2
      cases kv with
      | @cons x y _ _ hxy rest =>
        cases rest
        obtain ⟨hk, hv⟩ := hxy
        obtain ⟨yk, yv⟩ := y
        dsimp only at hk hv
        subst hk
        obtain ⟨e, hn, h1, h2⟩ : ∃ e, es.toList = [e] ∧ keyIs (.inr k) e.key = true ∧ e.val = yv := by
          cases h : es.toList with
          | nil => rw [h] at hp; cases hp
          | cons a b =>
            rw [h] at hp
            cases hp with
            | cons g1 g2 g3 =>
              cases g3
              exact ⟨a, rfl, g1, g2⟩
        obtain ⟨as, q, hm⟩ := ih _ _ _ p hv
        rcases keyIs_shape h1 with ⟨i, t, z, _⟩ | ⟨x, t, z, hx⟩
        · cases z
        cases z
        refine ⟨_, .dict (kvs := [(.str k, d')]) ho hc hd (by rw [hn]; exact .cons (by show Reads _ e.key _ _; rw [hx]; exact .str k t) .nil) (by rw [hn]; exact .cons (by show Reads _ e.val _ _; rw [h2]; exact q) .nil), ?_⟩
        simp only [List.nil_append, List.append_nil, List.cons_append, List.mem_cons, not_or]
        exact ⟨fun z => by rw [z] at na; simp at na, hm⟩
/-- repr of such a value -/
def rReprV : List V → Hp → VK → Prop := fun xs H Q => ∃ (v : V) (F : Addr → Prop) (n : Nat) (d : PyData), xs = [v] ∧ Dv F H n v d ∧ n ≤ 6 ∧ Q (.str d.shown) H
theorem cr_reprV {k : Nat} (hgd : X.A.guards = some []) (hr : Room k X.A) (hS : SysD X.K) : CallR X (.builtin "repr") rReprV := by
  intro pins s σ H xs us Q I r h
  obtain ⟨v, F, n, d, rfl, hd, hn, q⟩ := h
  obtain ⟨h1, h2, h3⟩ := Dv.size n v d hd
  have hz : d.shown.length ≤ sizeLine := by
    refine Nat.le_trans h3 (Nat.le_trans (?_ : bd n ≤ bd 6) (by decide +kernel))
    have st : ∀ j, bd j ≤ bd (j + 1) := fun j => by show bd j ≤ 4 * bd j + 100; omega
    have mono : ∀ {a b : Nat}, a ≤ b → bd a ≤ bd b := fun {a b} hab => by
      induction hab with
      | refl => exact Nat.le_refl _
      | step _ ih => exact Nat.le_trans ih (st _)
    exact mono hn
  cases r with
  | cons r1 rr =>
    cases rr
    rcases Dv.flat hd with ⟨a, rfl⟩ | hl
    · obtain ⟨as, R, hm⟩ := Dv.reads I hS n _ _ _ hd r1
      cases r1
      have hu := hr.un
      have hz2 : X.A.units + (d.depth + 1) < cLine := Nat.lt_of_le_of_lt (by omega : X.A.units + (d.depth + 1) ≤ X.A.units + 16 * k + 200) hu
      exact repr_of_reads' R h1 (fun _ => hm) hgd hz2 (fun _ _ e => e) (fun h' u tk hk => ⟨.str d.shown, H, I.kept hk, ⟨u, rfl⟩, q⟩) hz
    · rcases hl with ⟨rfl, rfl⟩ | ⟨b, rfl, rfl⟩ | ⟨i, rfl, rfl, hi⟩ | ⟨x, rfl, rfl, hx⟩
      · cases r1
        exact PySem.P.repr_of_none ⟨.str _, H, I.tok _, ⟨_, rfl⟩, q⟩
      · cases r1
        cases b
        · exact PySem.P.repr_of_bool ⟨.str (PyData.shown (.bool false)), H, I.tok _, ⟨_, rfl⟩, q⟩
        · exact PySem.P.repr_of_bool ⟨.str (PyData.shown (.bool true)), H, I.tok _, ⟨_, rfl⟩, q⟩
      · obtain ⟨t, rfl⟩ := r1
        exact PySem.P.repr_of_int (Nat.lt_of_lt_of_le (log_lt (k := 400) (by omega) hi) (by omega)) ⟨.str (PyData.shown (.int i)), H, I.tok _, ⟨_, rfl⟩, q⟩
      · obtain ⟨t, rfl⟩ := r1
        exact PySem.P.repr_of_str ⟨.str (PyData.shown (.str x)), H, I.tok _, ⟨_, rfl⟩, q⟩ hz
theorem i_reprV {Q : VK} {v : V} {n : Nat} {d : PyData} (h : Dv F H n v d) (hn : n ≤ 6) (q : Q (.str d.shown) H) : rReprV [v] H Q := ⟨v, F, n, d, rfl, h, hn, q⟩
end
end My

/-! own layer, 12: own errors as values: made, asked for their kind, their field read -/
namespace My
open PySem PySem.Spec PyProof.Rows L2
/-- an error of the class at C that holds v stands at a -/
def ErrAt (H : Hp) (C a : Addr) (v : V) : Prop := ∃ d, H a = some (exo a C (some d)) ∧ H d = some (exd d [("value", v)])
theorem ErrAt.same {H H' : Hp} {C a : Addr} {v : V} (h : ErrAt H C a v) (S : Same H H') : ErrAt H' C a v := by
  obtain ⟨d, h1, h2⟩ := h
  exact ⟨d, S _ _ h1, S _ _ h2⟩
theorem exo_lst {e C : Addr} {d : Option Addr} {xs : List V} : exo e C d ≠ .lst xs := fun z => by
  have y : HO.ext _ = HO.lst xs := z
  cases y
theorem exd_lst {e : Addr} {fs : List (Str × V)} {xs : List V} : exd e fs ≠ .lst xs := fun z => by
  have y : HO.ext _ = HO.lst xs := z
  cases y
theorem ErrAt.but {H H' : Hp} {C a p : Addr} {v : V} {xs : List V} (h : ErrAt H C a v) (hp : H p = some (.lst xs)) (B : But p H H') : ErrAt H' C a v := by
  obtain ⟨d, h1, h2⟩ := h
  exact ⟨d, B _ _ (ne_of h1 hp exo_lst) h1, B _ _ (ne_of h2 hp exd_lst) h2⟩
/-- what the written part says of an own class of errors -/
structure EOk (K : PySem.W.Frag) (C : Addr) : Prop where
  o : OexC K C
  no : PySem.W.findIn K (.ref C) "value" = some none
  x : XfC K C
  e : ExcC K C
def MkEQ (C : Addr) (sp : Sp) (vs : List V) (H : Hp) (Q : VK) : Prop := vs.length ≤ 1000 ∧ ∀ a, H a = none → sp (.ref a :: vs) (upd H a (exo a C none)) (fun v H2 => v = .non ∧ Q (.ref a) H2) E0
def tMkE (C : Addr) (sp : Sp) (ta : TA) : TE := fun σ H Q => ta σ H fun vs H1 => MkEQ C sp vs H1 Q
def ErrVQ (K : PySem.W.Frag) (x : V) (H : Hp) (Q : VK) : Prop := ∃ (a C : Addr) (v : V), x = .ref a ∧ ErrAt H C a v ∧ EOk K C ∧ Q v H
def tErrV (K : PySem.W.Frag) (te : TE) : TE := fun σ H Q => te σ H fun x H1 => ErrVQ K x H1 Q
def rIsEr (K : PySem.W.Frag) : List V → Hp → VK → Prop := fun xs H Q => ∃ (a C : Addr) (v c : V) (cv : Value) (b : Bool), xs = [.ref a, c] ∧ ErrAt H C a v ∧ EOk K C ∧ (∀ u, RelV c u → u = cv) ∧ PySem.W.kitOne K (.ref C) cv = some b ∧ Q (.bl b) H
section
variable {X : Cx} {CX : CXT} {x : Str} {e : Expr} {es : List Expr} {C fI : Addr} {k : Nat} {fd : FuncData} {ps : List Str} {sp : Sp} {ta : TA} {te : TE} {p pos : Pos}
theorem pe_mkE (T : OexC X.K C) (iC : PySem.W.findIn X.K (.ref C) "__init__" = some (some (.ref fI))) (tI : PySem.W.typeIn X.K (.ref fI) = some (.type "function")) (gC : X.mg x = some (.ref C)) (F1 : FnOk X.prog X.w X.K X.mg X.base CX k fI fd ps sp) (hb : L2.Binds X.K fd ps []) (hr : Room (k + 1) X.A)
    (ha : PA X (e :: es) ta) (hx : Passes CX X E0 := by first | exact pass0 | exact passL) (hg : Gl X x := by rfl)
    (hdb : (x == ("__debug__" : Str)) = false := by decide) (he : starEach (e :: es) X.env = (false, eval e X.env) :: starEach es X.env := by rfl) (hpl : (backTo pos (starEach es X.env)).any (·.1) = false := by rfl) :
    PE X (.Call (.Name x p) (e :: es) [] pos) (tMkE C sp ta) := by
  obtain ⟨nm, q, N, bs, bm, sn, sub, ab, col, dd, k0, k1, k2, k3, k5, hC, hbm⟩ := T.cls
  refine ⟨fun pins s σ H Q I h => ?_⟩
  refine wpAny_Call_Name_kw (ld_glob I hg gC ?_ hdb)
  refine PySem.W.callWith_K (h₀ := X.base) I.ok.mod.kin T.kC (thn (ha.run pos pins s σ H _ I h) ?_) he hpl
  rintro us ⟨hp, g, dr, tk, os⟩ ⟨vs, H1, I1, r1, hz, q1⟩
  refine ⟨I1.kIn, ?_⟩
  have hsz := Nat.le_succ hp.objs.size
  have hq := q1 (hp.objs.size + 1) (I1.hok.fresh hsz)
  have kk : ∀ b o, hp.get? b = some o → ((hp.push (PySem.W.kdv_tup us)).push (PySem.HandSPX.excO C hp.objs.size)).get? b = some o := fun b o z =>
    Heap.get?_push_of_some _ (Heap.get?_push_of_some _ z)
  have I2 := I1.laid (t' := tk) (a := hp.objs.size + 1) (o := exo (hp.objs.size + 1) C none) kk hsz
    (exo_ok (by heap_get))
  have r2 := Paired.cons (F := RelV) (a := V.ref (hp.objs.size + 1)) (b := Value.ref (hp.objs.size + 1)) rfl r1
  have hl : (Value.ref (hp.objs.size + 1) :: us).length = ps.length := by
    rw [← Vals.length r2]
    exact F1.len _ _ _ _ hq
  have hl2 : (Value.ref (hp.objs.size + 1) :: us ++ ([] : List Value)).length = ps.length := by
    rw [List.append_nil]
    exact hl
  have hb2 := hb _ (Value.ref (hp.objs.size + 1) :: us) I2.kIn hl2
  rw [List.append_nil] at hb2
  have hus : us.length ≤ sizeLine := by
    rw [← Vals.length r1, sizeLine_eq]
    omega
  have run := F1.run _ X.stack _ _ ⟨Value.ref (hp.objs.size + 1) :: us, []⟩ (Value.ref (hp.objs.size + 1) :: us) _ _ E0
    (hr.make C us []) (I2.env0.make C us []) hb2 r2 hq
  have bm2 := fun Y => PySem.HandSPX.refsVE_contains Y bm hbm
  refine wpAny_call (PySem.HandSPX.call_own F.excBase_ValueError bm2 (I1.kIn _ _ hC) (PySem.W.looks_findIn I1.kIn iC) (fun self => PySem.W.bind_fn I1.kIn self tI) hus (codeAny_mono run ?_))
  intro r s' hq'
  cases r with
  | error er => exact hx pins σ _ _ er s' I2 hq'
  | ok fl =>
    cases fl with
    | ret u =>
      obtain ⟨v, H', J, rv, ev, q2⟩ := I2.after hq'
      subst ev
      exact ⟨rv, .ref (hp.objs.size + 1), H', J, rfl, q2⟩
    | _ => exact False.elim hq'
theorem pe_errv (he : PE X e te) (hb : attributeBase e "value" X.env (eval e X.env) = eval e X.env := by rfl) : PE X (.Attribute e "value" pos) (tErrV X.K te) := by
  refine ⟨fun pins s σ H Q I h => attr_of hb (thn (he.run pins s σ H _ I h) ?_)⟩
  rintro u s1 ⟨x, H1, I1, rx, a, C, v, ex, ⟨d, h1, h2⟩, T, q⟩
  subst ex
  obtain rfl : u = Value.ref a := rx
  obtain ⟨t1, ho⟩ := exo_at I1.hok h1
  obtain ⟨mA, hns, rel⟩ := exd_at I1.hok h2
  obtain ⟨od, hd, hl⟩ := lookIn_ns hns
  obtain ⟨u, hu, ru⟩ := RelO.some_of (v := v) (o := mA "value") (rel "value")
  have J : PySem.W.InstAt s1.heap a _ C (some od) := ⟨ho, rfl, rfl, hd⟩
  exact HandSPX.exc_get I1.kIn J T.x.ga T.x.gg T.x.exC (PySem.W.findObj_own T.x.hdC T.no rfl (by rw [hl, hu])) (handed_of ru) ⟨v, H1, I1.tok _, ru, q⟩
end
/-! ### isinstance -/
section
open PySem.W PySem.Calls
variable {prog : Program} {w : World} {A : Around} {E : Value → Shared → Prop} {s : Shared} {K : Frag} {x D : Addr} {ox : Obj} {od : Option Obj}
/-- e.__class__ of an error, its own dict or none -/
theorem er_class {Q : Option Value → Shared → Prop} (c : ExcC K D) (KX : K.In s.heap) (I : InstAt s.heap x ox D od) (h : Q (some (.ref D)) { s with toks := s.toks + 1 }) : wpAny (model prog w) A (getAttr? (.ref x) "__class__") Q E s := by
  obtain ⟨cd, hcd, _⟩ := any_some c.hd
  have found : findObj K D od "__class__" = some (.bind (.builtin "getset_descriptor.__get__") (.builtin "object.__class__")) := by
    unfold findObj
    rw [hcd, Option.bind_some, c.ha, Option.bind_some]
    simp [c.hn, c.ht]
  obtain ⟨hp, g, d, t, os⟩ := s
  have ty := I.type (M := model prog w)
  have fd := looks_find (M := model prog w) KX I found
  have isB : Looks (model prog w) hp (isInstance (.ref x) (.type "BaseException")) true := ty.andThen (looks_subIn KX c.hs)
  have n1 : (Value.builtin "BaseException.__getattribute__" == Value.builtin "object.__getattribute__") = false := by decide +kernel
  have n2 : (onTheHeap (Value.ref D) && Value.builtin "BaseException.__getattribute__" == Value.builtin "object.__getattribute__") = false := by rw [n1]; rfl
  unfold getAttr? getAttrBy? getAttrBy
  refine wpAny_bind (wpAny_mkText ?_)
  refine wpAny_bind (wpAny_attempt (wpAny_holding (wpAny_bind (ty.at ?_))))
  refine wpAny_bind ((looks_findIn KX c.hg).at ?_)
  show wpAny _ _ (ite ((onTheHeap (Value.ref D) && Value.builtin "BaseException.__getattribute__" == Value.builtin "object.__getattribute__") = true) _ _) _ _ _
  rw [n2, if_neg Bool.false_ne_true]
  unfold getAttrByItsOwn hookBefore
  refine wpAny_bind ?_
  rw [if_pos (show onTheHeap (Value.ref D) = true from rfl)]
  refine (looks_findIn KX c.hk).at ?_
  refine wpAny_bind (wpAny_attempt ?_)
  refine wpAny_holding ?_
  unfold callGetattribute
  rw [show (false && onTheHeap (Value.builtin "BaseException.__getattribute__")) = false from rfl, if_neg Bool.false_ne_true]
  unfold boundAndCalled
  rw [PySem.F.excAttr_ValueError.ga.bind (.ref x)]
  refine wpAny_bind (wpAny_pure (wpAny_call (codeAny_call_builtin PySem.F.excAttr_ValueError.ga.plain PySem.F.entry_bexc_ga ?_)))
  refine @check_slot (model prog w) _ _ ⟨hp, g, d, t + 1, os⟩ "BaseException.__getattribute__" "BaseException" "__getattribute__" (.ref x)
    [.str "__class__" t] [] _ (by decide +kernel) (by decide +kernel) isB (PySem.F.args_bexc_ga (.ref x) (.str "__class__" t)) ?_
  unfold Builtin.«object.__getattribute__»
  refine wpAny_bind (wpAny_of_eq (a := ((Value.ref x : Value), [Value.str "__class__" t])) (by first | rfl | (simp only [slotArgs]; rfl)) ?_)
  refine wpAny_bind (wpAny_pure ?_)
  refine wpAny_bind (ty.at (wpAny_bind (fd.at ?_)))
  refine wpAny_bind (wpAny_holding (wpAny_call (class_get (s := ⟨hp, g, d, t + 1, os⟩) (ox := ox) (od := od) KX I c.hm (wpAny_pure ?_))))
  show wpAny _ _ (handedOut (.ref D)) _ _ _
  rw [handedOut_of (v := .ref D) rfl]
  first
    | exact wpAny_pure (wpAny_bind (wpAny_pure (wpAny_pure h)))
    | exact wpAny_pure (wpAny_pure h)
    | exact wpAny_pure h
theorem er_kit (c : ExcC K D) : KitX K (.ref x) (.ref D) (fun h => InstAt h x ox D od) := by
  obtain ⟨cd, hcd, _⟩ := any_some c.hd
  obtain ⟨c', d', sl', ho⟩ : ∃ c' d' sl', K.lookup D = some ⟨c', d', .cls cd, sl'⟩ := by
    unfold clsIn at hcd
    split at hcd
    · rename_i a b e f g
      cases hcd
      exact ⟨_, _, _, g⟩
    · cases hcd
  refine ⟨fun _ _ _ I => I.type, fun _ _ KX _ => ?_, fun h tp dd its n sl KX htp => ?_, fun KX I q => er_class c KX I q⟩
  · intro A' Q' E' s' keep q
    unfold isType loadHead
    exact wpAny_bind (wpAny_loadPart (keep _ _ (KX _ _ ho)) (wpAny_pure q))
  · refine Bool.eq_false_iff.mpr fun q => ?_
    have e := Value.ref.inj (beq_iff_eq.mp q)
    subst e
    have z := (KX _ _ ho).symm.trans htp
    cases z
end
theorem call_isEr {X : Cx} : CallR X (.builtin "isinstance") (rIsEr X.K) := by
  intro pins s σ H xs us Q I r h
  obtain ⟨a, C, v, c, cv, b, rfl, ⟨d, h1, h2⟩, T, hcv, e, q⟩ := h
  obtain ⟨t1, ho⟩ := exo_at I.hok h1
  obtain ⟨mA, hns, _⟩ := exd_at I.hok h2
  obtain ⟨od, hd, _⟩ := lookIn_ns hns
  have J : PySem.W.InstAt s.heap a _ C (some od) := ⟨ho, rfl, rfl, hd⟩
  cases r with
  | cons rx rr =>
    cases rr with
    | cons rt rr =>
      cases rr
      cases rx
      have ec := hcv _ rt
      subst ec
      exact PySem.W.kia_one (er_kit T.e) I.kIn J e (fun z => nomatch z) fun tk => ⟨.bl b, H, I.kept (t' := tk) fun _ _ z => z, rfl, q⟩
/-! ### the steps -/
section
variable {K : PySem.W.Frag} {σ : L2.St} {H : Hp} {ta : TA} {te : TE} {Q : VK} {C a D : Addr} {sp : Sp} {v : V} {b : Bool}
theorem i_mkE0 (h : ta σ H fun vs H1 => MkEQ C sp vs H1 Q) : tMkE C sp ta σ H Q := h
theorem i_errv0 (h : te σ H fun x H1 => ErrVQ K x H1 Q) : tErrV K te σ H Q := h
theorem i_errv (h : ErrAt H C a v) (T : EOk K C) (q : Q v H) : ErrVQ K (.ref a) H Q := ⟨a, C, v, rfl, h, T, q⟩
theorem i_isE (h : ErrAt H C a v) (T : EOk K C) (e : PySem.W.kitOne K (.ref C) (.ref D) = some b) (q : Q (.bl b) H) : rIsEr K [.ref a, .ref D] H Q :=
  ⟨a, C, v, .ref D, .ref D, b, rfl, h, T, fun _ z => z, e, q⟩
theorem i_isEt {n : String} (h : ErrAt H C a v) (T : EOk K C) (e : PySem.W.kitOne K (.ref C) (.type n) = some b) (q : Q (.bl b) H) : rIsEr K [.ref a, .ty n] H Q :=
  ⟨a, C, v, .ty n, .type n, b, rfl, h, T, fun _ z => z, e, q⟩
/-- what the own __init__ promises -/
def spErrInit (K : PySem.W.Frag) : Sp := fun vs H Q _ => ∃ (a C : Addr) (v : V), vs = [.ref a, v] ∧ H a = some (exo a C none) ∧ EOk K C ∧ ∀ H' d, But a H H' → H d = none → H' a = some (exo a C (some d)) → H' d = some (exd d [("value", v)]) → Q .non H'
theorem i_mkE (T : EOk K C) (k : ∀ a H2, Same H H2 → H a = none → ErrAt H2 C a v → Q (.ref a) H2) : MkEQ C (spErrInit K) [v] H Q := by
  refine ⟨by show 1 ≤ 1000; omega, fun a ha => ⟨a, C, v, rfl, upd_same, T, fun H' d B _ e1 e2 => ⟨rfl, ?_⟩⟩⟩
  exact k a H' (fun b o z => B b o (ne_of_none z ha) (by rw [upd_ne (ne_of_none z ha)]; exact z)) ha ⟨d, e1, e2⟩
/-- what a raise of such an error asks -/
theorem i_mkO {QX : XK} {H : Hp} (T : EOk K C) (k : ∀ d H2, H d = none → Same H H2 → H2 d = some (.xd [("value", v)]) → QX (.ref C) (some d) H2) : ([v] : List V).length ≤ 1000 ∧ ∀ a, H a = none → spErrInit K (.ref a :: ([v] ++ [])) (upd H a (exo a C none))
    (fun u H2 => u = .non ∧ ∃ (d : Addr) (fs : List (Str × V)), H2 a = some (exo a C (some d)) ∧ H2 d = some (exd d fs) ∧ H d = none ∧ QX (.ref C) (some d) (upd (del H2 a) d (.xd fs))) (fun _ _ _ => False) := by
  refine ⟨by show 1 ≤ 1000; omega, fun a ha => ⟨a, C, v, rfl, upd_same, T, fun H' d B hd e1 e2 => ⟨rfl, d, _, e1, e2, ?_⟩⟩⟩
  have nd : d ≠ a := fun z => by rw [z, upd_same] at hd; cases hd
  rw [upd_ne nd] at hd
  refine ⟨hd, k d _ hd (fun b o z => ?_) upd_same⟩
  rw [upd_ne (ne_of_none z hd), del_ne (ne_of_none z ha)]
  exact B b o (ne_of_none z ha) (by rw [upd_ne (ne_of_none z ha)]; exact z)
end
end My

/-! own layer, 13: own errors, what the written part holds of them -/
namespace My
open PySem PySem.Spec PyProof.Rows L2
def exclsB (K : PySem.W.Frag) (C : Addr) : Bool := match K.lookup C with
  | some ⟨.type "type", _, .cls cd, sl⟩ => (match cd.mro, sl.toList with
    | .ref C' :: bm, [_, _, _, _, some (.builtin n), _] => decide (C' = C) && (decide (n = "ValueError.__new__") && (cd.hasDict && (!cd.hasDel && PySem.HandSPX.refsVE bm)))
    | _, _ => false)
  | _ => false
section
variable {K : PySem.W.Frag} {C M D : Addr}
theorem exclsB_ok (h : exclsB K C = true) : ∃ nm q N bs bm sn sub ab col dd k0 k1 k2 k3 k5, K.lookup C = some (excClassObj nm q C N bs bm true sn sub ab col dd k0 k1 k2 k3 k5 "ValueError.__new__") ∧ PySem.HandSPX.refsVE bm = true := by
  unfold exclsB at h
  split at h
  · rename_i dd cd sl hl
    split at h
    · rename_i C' bm k0 k1 k2 k3 n k5 hm hs
      obtain ⟨h1, h⟩ := He.ba h
      obtain ⟨h2, h⟩ := He.ba h
      obtain ⟨h3, h⟩ := He.ba h
      obtain ⟨h4, h5⟩ := He.ba h
      have f1 := of_decide_eq_true h1
      have f2 := of_decide_eq_true h2
      have f4 : cd.hasDel = false := by simpa using h4
      clear h1 h2 h4
      subst f1 f2
      obtain ⟨nm, bs, mro, ns, qn, hd, sn, sub, ab, col, del⟩ := cd
      dsimp only at hm h3 f4
      subst hm h3 f4
      obtain ⟨l⟩ := sl
      dsimp only at hs
      subst hs
      exact ⟨nm, qn, ns, bs, bm, sn, sub, ab, col, dd, k0, k1, k2, k3, k5, hl, h5⟩
    · cases h
  · cases h
def eokB (K : PySem.W.Frag) (C : Addr) : Bool := [exclsB K C,
  He.eqO (PySem.W.findIn K (.ref C) "__setattr__") (some (some (.builtin "object.__setattr__"))),
  decide (PySem.W.subIn K (.ref C) (.type "BaseException") = some true),
  decide (PySem.W.typeIn K (.ref C) = some (.type "type")),
  PySem.W.keepIn K (.ref C),
  He.eqO (PySem.W.findIn K (.ref C) "value") (some none),
  He.eqO (PySem.W.findIn K (.ref C) "__getattribute__") (some (some (.builtin "BaseException.__getattribute__"))),
  He.eqO (PySem.W.findIn K (.ref C) "__getattr__") (some none),
  PySem.W.hasDictIn K C,
  He.eqO (PySem.W.findIn K (.ref C) "__class__") (some (some (.builtin "object.__class__"))),
  decide (PySem.W.mroIn K C (.type "object") = some true)].all id
/-- asked once for all classes -/
def clsB (K : PySem.W.Frag) : Bool := He.eqO (PySem.W.specialIn K (.builtin "object.__class__") "__get__") (some (some (.builtin "getset_descriptor.__get__"))) && decide (PySem.W.takesIn K (.builtin "object.__class__") = some true)
theorem eokB_ok (h : eokB K C = true) (g : clsB K = true) : EOk K C := by
  obtain ⟨g1, g2⟩ := He.ba g
  have g1 := He.eqO_ok g1
  have g2 := of_decide_eq_true g2
  have a := List.all_eq_true.mp h
  have h0 : exclsB K C = true := a _ (.head _)
  have h1 := He.eqO_ok (a _ (.tail _ (.head _)))
  have h2 := of_decide_eq_true (a _ (.tail _ (.tail _ (.head _))))
  have h3 := of_decide_eq_true (a _ (.tail _ (.tail _ (.tail _ (.head _)))))
  have h4 : PySem.W.keepIn K (.ref C) = true := a _ (.tail _ (.tail _ (.tail _ (.tail _ (.head _)))))
  have h5 := He.eqO_ok (a _ (.tail _ (.tail _ (.tail _ (.tail _ (.tail _ (.head _)))))))
  have h6 := He.eqO_ok (a _ (.tail _ (.tail _ (.tail _ (.tail _ (.tail _ (.tail _ (.head _))))))))
  have h7 := He.eqO_ok (a _ (.tail _ (.tail _ (.tail _ (.tail _ (.tail _ (.tail _ (.tail _ (.head _)))))))))
  have h8 : PySem.W.hasDictIn K C = true := a _ (.tail _ (.tail _ (.tail _ (.tail _ (.tail _ (.tail _ (.tail _ (.tail _ (.head _)))))))))
  have h9 := He.eqO_ok (a _ (.tail _ (.tail _ (.tail _ (.tail _ (.tail _ (.tail _ (.tail _ (.tail _ (.tail _ (.head _)))))))))))
  have h10 := of_decide_eq_true (a _ (.tail _ (.tail _ (.tail _ (.tail _ (.tail _ (.tail _ (.tail _ (.tail _ (.tail _ (.tail _ (.head _))))))))))))
  exact ⟨⟨exclsB_ok h0, h1, h2, h3, h4⟩, h5, ⟨h6, h7, h2, h8⟩, ⟨h6, h7, h2, h8, h9, g1, g2, h10⟩⟩
end
theorem eok_all {K : PySem.W.Frag} {l : List Str} (h : (l.all (fun c => eokB K (He.ga K c)) && clsB K) = true) : ∀ c ∈ l, EOk K (He.ga K c) := fun c hc => by
  obtain ⟨h1, h2⟩ := He.ba h
  exact eokB_ok (List.all_eq_true.mp h1 c hc) h2
section
variable {K : PySem.W.Frag} {C M D : Addr}
/-- the classes that a class of errors stands below -/
def mroB (K : PySem.W.Frag) (C M : Addr) : Bool := match PySem.W.clsIn K C with
  | some cd => decide (cd.mro = .ref C :: .ref M :: PySem.HandSPX.veTail)
  | none => false
def mroB0 (K : PySem.W.Frag) (M : Addr) : Bool := match PySem.W.clsIn K M with
  | some cd => decide (cd.mro = .ref M :: PySem.HandSPX.veTail)
  | none => false
theorem mro_in (h : mroB K C M = true) (v : Value) : PySem.W.mroIn K C v = some ((Value.ref C :: .ref M :: PySem.HandSPX.veTail).contains v) := by
  unfold mroB at h
  unfold PySem.W.mroIn
  split at h
  · rename_i cd e
    rw [e, Option.bind_some, of_decide_eq_true h]
    rfl
  · cases h
theorem mro_in0 (h : mroB0 K M = true) (v : Value) : PySem.W.mroIn K M v = some ((Value.ref M :: PySem.HandSPX.veTail).contains v) := by
  unfold mroB0 at h
  unfold PySem.W.mroIn
  split at h
  · rename_i cd e
    rw [e, Option.bind_some, of_decide_eq_true h]
    rfl
  · cases h
theorem ve_ref : PySem.HandSPX.veTail.contains (Value.ref D) = false := rfl
theorem ref_beq {a b : Addr} : (Value.ref a == Value.ref b) = decide (a = b) := by
  by_cases e : a = b
  · subst e
    rw [beq_self_eq_true, decide_eq_true rfl]
  · rw [decide_eq_false e]
    exact Bool.eq_false_iff.mpr fun z => e (Value.ref.inj (beq_iff_eq.mp z))
theorem kit_cls1 (d : EOk K D) {b : Bool} (h : PySem.W.mroIn K C (.ref D) = some b) (hb : C = D → b = true) : PySem.W.kitOne K (.ref C) (.ref D) = some b := by
  unfold PySem.W.kitOne
  by_cases e : C = D
  · subst e
    rw [if_pos (beq_self_eq_true _), hb rfl]
  · rw [if_neg (by rw [ref_beq, decide_eq_false e]; exact Bool.false_ne_true)]
    obtain ⟨cd, hc, _⟩ := PySem.W.any_some d.e.hd
    show (if ((PySem.W.clsIn K D).isSome && PySem.W.typeIn K (.ref D) == some (.type "type")) = true then PySem.W.subIn K (.ref C) (.ref D) else none) = _
    rw [hc, d.o.tyC, if_pos (by rfl)]
    exact h
/-- isinstance of an error of the class C below M -/
theorem kit_er (d : EOk K D) (h : mroB K C M = true) (hM : D ≠ M) : PySem.W.kitOne K (.ref C) (.ref D) = some (decide (D = C)) :=
  kit_cls1 d (by rw [mro_in h, List.contains_cons, List.contains_cons, ref_beq, ref_beq, decide_eq_false hM, ve_ref, Bool.or_false, Bool.or_false]) fun e => decide_eq_true e.symm
theorem kit_erM (d : EOk K M) (h : mroB K C M = true) : PySem.W.kitOne K (.ref C) (.ref M) = some true :=
  kit_cls1 d (by rw [mro_in h, List.contains_cons, List.contains_cons, ref_beq, ref_beq, decide_eq_true rfl, Bool.true_or, Bool.or_true]) fun _ => rfl
theorem kit_er0 (d : EOk K D) (h : mroB0 K M = true) (hM : D ≠ M) : PySem.W.kitOne K (.ref M) (.ref D) = some false :=
  kit_cls1 d (by rw [mro_in0 h, List.contains_cons, ref_beq, decide_eq_false hM, ve_ref, Bool.or_false]) fun e => absurd e.symm hM
theorem kit_V (h : mroB K C M = true) : PySem.W.kitOne K (.ref C) (.type "ValueError") = some true := by
  show PySem.W.mroIn K C (.type "ValueError") = some true
  rw [mro_in h]
  rfl
theorem kit_V0 (h : mroB0 K M = true) : PySem.W.kitOne K (.ref M) (.type "ValueError") = some true := by
  show PySem.W.mroIn K M (.type "ValueError") = some true
  rw [mro_in0 h]
  rfl
/-- the dict of the modules stands where nothing of ours does -/
def sysB (K : PySem.W.Frag) : Bool := match K.lookup sysModules with
  | some ⟨_, _, .dict _ _, _⟩ => true
  | _ => false
theorem sysB_ok (h : sysB K = true) : SysD K := by
  unfold sysB at h
  split at h
  · rename_i e
    exact ⟨_, _, _, _, _, e⟩
  · cases h
end
/-! ### a loop over enumerate -/
section
variable {K : PySem.W.Frag} {a : Addr} {xs : List V} {g : TG} {tb : TS} {D : Ends} {σ : L2.St} {H : Hp} {ta : TA} {R : It → Hp → Prop}
def WlkE (K : PySem.W.Frag) (vs : List V) (H : Hp) (R : It → Hp → Prop) : Prop := ∃ a xs, vs = [.ref a] ∧ SqL K H a xs ∧ R (Ite K a) H
theorem i_we (h : ta σ H fun vs H1 => WlkE K vs H1 R) : iEnum K ta σ H R := h
theorem i_wev (hl : SqL K H a xs) (h : R (Ite K a) H) : WlkE K [.ref a] H R := ⟨a, xs, rfl, hl, h⟩
theorem forq_enum (Pv : Nat → L2.St → Hp → Prop) (h0 : Pv 0 σ H) (hl : ∀ i σ H, i ≤ xs.length → Pv i σ H → SqL K H a xs)
    (hs : ∀ i x σ H T H', xs[i]? = some x → Pv i σ H → Same H H' → H T = none → H' T = some (.tup [.int (i : Nat), x]) → g (.ref T) σ H' fun σ2 H2 => tb { D with nx := Pv (i + 1), ct := Pv (i + 1), bk := D.nx } σ2 H2) (hd : ∀ σ H, Pv xs.length σ H → D.nx σ H) : ForQ (Ite K a) g tb D σ H := by
  refine for_it (G := fun H => SqL K H a xs) walk_enum Pv h0 hl ?_ hd
  rintro i x σ H H' hi hP ⟨T, y, z, rfl, hT, rfl, e1, e2⟩
  cases e1
  exact hs i z σ H T _ e2 hP (fun b u e => by rw [upd_ne (ne_of_none e hT)]; exact e) hT upd_same
end
end My

/-! own layer, 20: lambdas as values; a caught error that is kept -/
namespace My
open PySem PySem.Spec PyProof.Rows L2 LamX
/-- the lambda of this text, made in the frame env, stands at f -/
def lamO (env : Env) (ps : Arguments) (body : Expr) (sc : Scope) (c f : Addr) : HO := .ext fun h => ∃ (pm ctv : Value), h.get? f = some (PySem.W.kla_obj "<lambda>" (env.qual ++ "<lambda>") ps body sc (cloFrom env.cells sc.names []) pm c ctv)
theorem lamO_ok {P : Program} {w : World} {H : Hp} {h : Heap} {env : Env} {ps : Arguments} {body : Expr} {sc : Scope} {c f : Addr} {pm ctv : Value} (e : h.get? f = some (PySem.W.kla_obj "<lambda>" (env.qual ++ "<lambda>") ps body sc (cloFrom env.cells sc.names []) pm c ctv)) :
    ObjOk P w H h f (lamO env ps body sc c f) := ⟨⟨pm, ctv, e⟩, ⟨_, e⟩, fun h1 h2 ⟨a, b, q⟩ k => ⟨a, b, k _ q⟩⟩
def LamAt (env : Env) (ps : Arguments) (body : Expr) (sc : Scope) (H : Hp) (f : Addr) : Prop := ∃ c, H f = some (lamO env ps body sc c f) ∧ H c = some (CodeO c (env.qual ++ "<lambda>"))
section
variable {env : Env} {ps : Arguments} {body : Expr} {sc : Scope} {H H' : Hp} {f p : Addr}
theorem LamAt.ext (h : LamAt env ps body sc H f) (e : ∀ b o, H b = some o → (∀ r, o ≠ .tbl r) → (∀ xs, o ≠ .lst xs) → H' b = some o) : LamAt env ps body sc H' f := by
  obtain ⟨c, h1, h2⟩ := h
  exact ⟨c, e _ _ h1 (fun r z => by unfold lamO at z; cases z) (fun r z => by unfold lamO at z; cases z), e _ _ h2 (fun r z => by unfold CodeO at z; cases z) (fun r z => by unfold CodeO at z; cases z)⟩
theorem LamAt.same (h : LamAt env ps body sc H f) (S : Same H H') : LamAt env ps body sc H' f := h.ext fun b o e _ _ => S b o e
theorem LamAt.but {xs : List V} (h : LamAt env ps body sc H f) (hp : H p = some (.lst xs)) (B : But p H H') : LamAt env ps body sc H' f := h.ext fun b o e _ n => B b o (ne_of e hp (n xs)) e
theorem LamAt.extN (h : LamAt env ps body sc H f) (E : ExtN H H') : LamAt env ps body sc H' f := h.ext fun b o e n _ => E b o e n
end
section
variable {X : Cx} {pins : List (Addr × Obj)} {σ : L2.St} {H : Hp} {s : Shared}
/-- a lambda is made and known from now on -/
theorem lam_new {T : List (Addr × Str)} {c P : Addr} {ps : Arguments} {body : Expr} {sc : Scope} {pos : Pos} {E : Value → Shared → Prop} {Q : Value → Shared → Prop} (I : L2.Inv X pins σ H s) (TB : TabB X.base X.mg c P) (hcode : X.env.code = .ref c)
    (hm : (P, X.env.qual ++ "<lambda>") ∈ T) (hu : ∀ p ∈ T, p.1 = P → p.2 = X.env.qual ++ "<lambda>") (hT : Tabs T H) (hdef : defaultsOf ps X.env = ([], [])) (hfree : ∀ y ∈ sc.names, y.2 = .free → ∃ c, X.env.cells.lookup y.1 = some c)
    (k : ∀ (f : Addr) (H1 : Hp) (s' : Shared), L2.Inv X pins σ H1 s' → ExtN H H1 → Tabs T H1 → H f = none → LamAt X.env ps body sc H1 f → Q (.ref f) s') : wpAny (model X.prog X.w) X.A (eval (.Lambda ps body sc pos) X.env) Q E s := by
  obtain ⟨rows, hP, tr, all⟩ := hT _ hm
  have tab : s.heap.get? P = some { cls := .none, data := .fields rows } := I.hok P _ hP
  refine PySem.W.kla_eval hdef ?_
  cases hc : codeAmong pos rows.toList with
  | some cv =>
    obtain ⟨c1, rfl, known⟩ := all pos cv hc
    refine PySem.W.kla_makeFunctionHit (closure_ok hfree) I.ok.glob (I.mod.glob.keeps I.bk) hcode (TB.code.keeps I.bk) tab tr hc (TB.bm.keeps I.bk) ?_
    intro ctv h' tk old big
    have new : H h'.objs.size = none := I.hok.fresh big
    have J := I.laid (t' := tk) (a := h'.objs.size) (o := lamO X.env ps body sc c1 h'.objs.size) (h' := h'.push (PySem.W.kla_obj "<lambda>" (X.env.qual ++ "<lambda>") ps body sc (cloFrom X.env.cells sc.names []) ((X.mg "__name__").getD .none) c1 ctv))
      (fun b o e => Heap.get?_push_of_some _ (old b o e)) big (lamO_ok (Heap.get?_push_size _ rfl))
    have up : ∀ b o, H b = some o → upd H h'.objs.size (lamO X.env ps body sc c1 h'.objs.size) b = some o := fun b o e => by
      rw [upd_ne (ne_of_none e new)]
      exact e
    exact k _ _ _ J (ExtN.of up) (hT.ext up) new ⟨c1, upd_same, up _ _ known⟩
  | none =>
    refine PySem.W.kla_makeFunction (closure_ok hfree) I.ok.glob (I.mod.glob.keeps I.bk) hcode (TB.code.keeps I.bk) tab tr hc TB.gP (TB.bm.keeps I.bk) ?_
    intro c1 ctv h' tk old ge lt rec htb
    obtain ⟨c2, oc, vs, t, e2, hoc, hd, hv⟩ := rec
    cases e2
    have J1 := inv_table (q := X.env.qual ++ "<lambda>") (t' := tk) (more := #[rawInt pos.line, rawInt pos.col, .ref c1]) I hP (fun b o hb e => old b o hb e) htb ge ⟨oc, vs, t, hoc, hd, hv⟩
    have nc : H c1 = none := I.hok.fresh ge
    have big : s.heap.objs.size ≤ h'.objs.size := Nat.le_trans ge (Nat.le_of_lt lt)
    have nf : H h'.objs.size = none := I.hok.fresh big
    generalize e1 : upd (upd H P (.tbl (rows ++ #[rawInt pos.line, rawInt pos.col, .ref c1]))) c1 (CodeO c1 (X.env.qual ++ "<lambda>")) = H1 at J1
    have at1 : ∀ b o, H b = some o → (∀ r, o ≠ .tbl r) → H1 b = some o := fun b o e n => by
      rw [← e1, upd_ne (ne_of_none e nc), upd_ne (fun z => n rows (Option.some.inj (e.symm.trans (by rw [z]; exact hP))))]
      exact e
    have atC : H1 c1 = some (CodeO c1 (X.env.qual ++ "<lambda>")) := by rw [← e1]; exact upd_same
    have n1 : H1 h'.objs.size = none := J1.hok.fresh (Nat.le_refl _)
    have J := J1.laid (t' := tk) (a := h'.objs.size) (o := lamO X.env ps body sc c1 h'.objs.size) (h' := h'.push (PySem.W.kla_obj "<lambda>" (X.env.qual ++ "<lambda>") ps body sc (cloFrom X.env.cells sc.names []) ((X.mg "__name__").getD .none) c1 ctv))
      (fun b o e => Heap.get?_push_of_some _ e) (Nat.le_refl _) (lamO_ok (Heap.get?_push_size _ rfl))
    have up : ∀ b o, H1 b = some o → upd H1 h'.objs.size (lamO X.env ps body sc c1 h'.objs.size) b = some o := fun b o e => by
      rw [upd_ne (ne_of_none e n1)]
      exact e
    refine k _ _ _ J (fun b o e n => up _ _ (at1 b o e n)) (fun p hp => ?_) nf ⟨c1, upd_same, up _ _ atC⟩
    by_cases hb : p.1 = P
    · rw [hu p hp hb, hb]
      have eL : (rows ++ #[rawInt pos.line, rawInt pos.col, .ref c1]).toList = rows.toList ++ [rawInt pos.line, rawInt pos.col, .ref c1] := by simp
      refine ⟨_, up _ _ (by rw [← e1, upd_ne (ne_of_none hP nc), upd_same]), by rw [eL]; exact PySem.TriplesOk_snoc _ _ _ _ tr, fun p' cv hcv => ?_⟩
      rw [eL] at hcv
      rcases among_app _ tr hcv with z | z
      · obtain ⟨c0, e0, e3⟩ := all p' cv z
        exact ⟨c0, e0, up _ _ (at1 _ _ e3 codeO_ne)⟩
      · exact ⟨c1, z, up _ _ atC⟩
    · obtain ⟨ps', a1, a2, a3⟩ := hT p hp
      have stay : H1 p.1 = some (.tbl ps') := by
        rw [← e1, upd_ne (ne_of_none a1 nc), upd_ne hb]
        exact a1
      refine ⟨ps', up _ _ stay, a2, fun p' cv hcv => ?_⟩
      obtain ⟨c0, e0, e3⟩ := a3 p' cv hcv
      exact ⟨c0, e0, up _ _ (at1 _ _ e3 codeO_ne)⟩
/-- lambda: body, as a value -/
def tLamV (T : List (Addr × Str)) (env : Env) (ps : Arguments) (body : Expr) (sc : Scope) : TE := fun _ H Q => Tabs T H ∧ ∀ (f : Addr) (H1 : Hp), ExtN H H1 → Tabs T H1 → H f = none → LamAt env ps body sc H1 f → Q (.ref f) H1
theorem pe_lamV {T : List (Addr × Str)} {c P : Addr} {ps : Arguments} {body : Expr} {sc : Scope} {pos : Pos} (TB : TabB X.base X.mg c P) (hcode : X.env.code = .ref c) (hm : (P, X.env.qual ++ "<lambda>") ∈ T) (hu : ∀ p ∈ T, p.1 = P → p.2 = X.env.qual ++ "<lambda>")
    (L : LamS X.env.scope sc) (hdef : defaultsOf ps X.env = ([], [])) : PE X (.Lambda ps body sc pos) (tLamV T X.env ps body sc) :=
  ⟨fun pins s σ H Q I h => lam_new I TB hcode hm hu h.1 hdef (L.has I.ok) fun f H1 s' J eN T1 n at_ => ⟨.ref f, H1, J, rfl, h.2 f H1 eN T1 n at_⟩⟩
end
/-! ### an object that is there becomes known -/
section
variable {X : Cx} {pins : List (Addr × Obj)} {σ : L2.St} {H : Hp} {s : Shared}
theorem Inv.track {a : Addr} {o : HO} (I : L2.Inv X pins σ H s) (ha : H a = none) (h0 : X.s_0.heap.get? a = none) (nL : a ≠ X.env.locals) (nC : ∀ v, ¬ s.heap.IsCell a v) (nP : ∀ p ∈ X.pn ++ pins, p.1 ≠ a) (ok : ObjOk X.prog X.w (upd H a o) s.heap a o) : L2.Inv X pins σ (upd H a o) s := by
  have at_ : ∀ {b : Addr} {u : HO}, H b = some u → upd H a o b = some u := fun {b u} e => by
    rw [upd_ne (ne_of_none e ha)]
    exact e
  have old : ∀ {b : Addr} {u : Obj}, X.s_0.heap.get? b = some u → b ≠ a := fun {b u} e z => by
    rw [z, h0] at e
    cases e
  refine ⟨I.ok, I.os, I.bare, ⟨I.base.keep, I.base.slot, fun b u e n hx => ?_, I.base.there, fun b xs e => at_ (I.base.tups b xs e), fun b u v e => at_ (I.base.frzs b u v e), fun b rows e => ?_⟩, I.loc, I.cell, ?_, fun y c e => ?_, fun p hp => ?_, fun b u e => ?_, I.len⟩
  · rw [upd_ne (old e)]
    exact I.base.free b u e n hx
  · obtain ⟨more, z⟩ := I.base.tbls b rows e
    exact ⟨more, at_ z⟩
  · rw [upd_ne (Ne.symm nL)]
    exact I.free
  · rw [upd_ne (fun z => by
      obtain ⟨v, q⟩ := I.cell y c e
      rw [z] at q
      exact nC v q)]
    exact I.freeC y c e
  · obtain ⟨e, n, r⟩ := I.pin p hp
    exact ⟨e, by rw [upd_ne (nP p hp)]; exact n, r⟩
  · by_cases hb : b = a
    · subst hb
      rw [upd_same] at e
      cases e
      exact ok
    · rw [upd_ne hb] at e
      exact (I.hok b u e).stay (fun c v _ q => q) (fun c q => at_ q) fun c xs q => at_ q
end
end My

/-! own layer, 21: a def that is handed a lambda and calls it -/
namespace My
open PySem PySem.Spec PyProof.Rows L2 LamX
section
variable {X : Cx} {pins : List (Addr × Obj)} {σ : L2.St} {H : Hp} {s : Shared}
/-- the context of the def at g, entered at s -/
abbrev inDef (X : Cx) (Ng : List Str) (q : Str) (sg : Scope) (g : Addr) (cdg : Value) (s : Shared) (H : Hp) : Cx := cxOf CX0 X.prog X.w X.K X.mg X.base Ng q sg g cdg X.A X.stack s H E0
/-- a(), a holding a lambda of the frame that called -/
theorem pe_actV {Ng : List Str} {qg : Str} {sg : Scope} {g f : Addr} {cdg : Value} {ps : Arguments} {body : Expr} {sc : Scope} {k i : Nat} {a : Str} {pn : List (Addr × Obj)} {xe : Value → Shared → Prop} {W : WX} {E : XK} {tb : TE} {p1 p2 : Pos}
    (I : L2.Inv X pins σ H s) (L : LamS X.env.scope sc) (hbind : ∀ (cl : List (Str × Addr)) (pm cv ctv : Value), bindArgs (PySem.W.kla_fn "<lambda>" (X.env.qual ++ "<lambda>") ps body sc cl pm cv ctv) ⟨[], []⟩ = pure [])
    (tk : Takes ((inDef X Ng qg sg g cdg s H).tr pn xe) W) (hr : Room (k + 1) (X.A.deeper (envOfC qg sg s.heap.objs.size g cdg)))
    (hbody : ∀ (A : Around) (outer : List Env) (s : Shared) (H : Hp) (c' : Addr), Room k (A.deeper (lamEnv X sc s.heap.objs.size f c')) → PE (lamCx X A outer s H E sc f c') body tb)
    (hN : Ng[i]? = some a) (hv : Vis sg a) (hd : (a == ("__debug__" : Str)) = false := by decide) (hcd : (a == ("__classdict__" : Str)) = false := by decide) :
    PE ((inDef X Ng qg sg g cdg s H).tr pn xe) (.Call (.Name a p1) [] [] p2) (fun σZ HZ Q => σZ[i]? = some (some (.ref f)) ∧ (∀ cls d H', E cls d H' → W cls d σZ H') ∧ LamAt X.env ps body sc HZ f ∧ tb σ HZ Q) := by
  refine ⟨fun pz sz σz HZ Q IZ h => ?_⟩
  obtain ⟨slot, hW, ⟨c1, at_, code⟩, rd⟩ := h
  refine wpAny_Call_Name_kw (thn ((pe_var (pos := p1) (i := i) hN hv hd hcd).run pz sz σz HZ (fun v H1 => v = .ref f ∧ H1 = HZ) IZ ⟨.ref f, slot, rfl, rfl⟩) ?_)
  rintro u s1 ⟨v, H1, I1, r1, rfl, rfl⟩
  obtain rfl : u = Value.ref f := r1
  obtain ⟨pm, ctv, of⟩ : ∃ pm ctv, s1.heap.get? f = some (PySem.W.kla_obj "<lambda>" (X.env.qual ++ "<lambda>") ps body sc (cloFrom X.env.cells sc.names []) pm c1 ctv) := by
    have z : ObjOk X.prog X.w H1 s1.heap f (.ext fun h => ∃ pm ctv, h.get? f = some (PySem.W.kla_obj "<lambda>" (X.env.qual ++ "<lambda>") ps body sc (cloFrom X.env.cells sc.names []) pm c1 ctv)) := I1.hok f _ at_
    exact z.1
  obtain ⟨oc, vs, t, hoc, hdc, hvc⟩ : ∃ (oc : Obj) (vs : Array Value) (t : Tok), s1.heap.get? c1 = some oc ∧ oc.data = .fields vs ∧ vs[1]? = some (.str (X.env.qual ++ "<lambda>") t) := by
    have z : ObjOk X.prog X.w H1 s1.heap c1 (.ext fun h => ∃ (oc : Obj) (vs : Array Value) (t : Tok), h.get? c1 = some oc ∧ oc.data = .fields vs ∧ vs[1]? = some (.str (X.env.qual ++ "<lambda>") t)) := I1.hok c1 _ code
    exact z.1
  refine PySem.W.callWith_F0 ⟨_, _, _, _, of⟩ ?_
  have un : Un (frs X.stack) [] H H1 s.heap s1.heap := I1.base
  have runs : codeAny (model X.prog X.w) (X.A.deeper (envOfC qg sg s.heap.objs.size g cdg)) (.call (.ref f) ⟨[], []⟩)
      (CR (L2.CX X.prog X.w) (envOfC qg sg s.heap.objs.size g cdg :: X.stack) X.prog X.w H1 s1 Q E) s1 := by
    refine PySem.W.kla_callFunE hr.depth of rfl L.co L.gen rfl ⟨c1, oc, vs, t, rfl, hoc, hdc, hvc⟩ ?_
    rw [hbind]
    refine wpAny_pure ?_
    refine wpAny_newFunctionEnv (fun y hy => (L.own y hy).2) (fun y hy => absurd hy (by simp)) (fun h₁ hns hsb => ?_) L.kind
    refine ⟨I1.nolimit.fresh _ hsb, ?_⟩
    show codeAny _ _ (.expr body (lamEnv X sc s1.heap.objs.size f c1)) _ _
    have old : ∀ b o, s1.heap.get? b = some o → h₁.get? b = some o := fun b o e =>
      hsb.extBut b o (Nat.ne_of_lt (Heap.lt_size e)) (Heap.get?_push_of_some _ e)
    have J := lam_start2 (A := X.A.deeper (envOfC qg sg s.heap.objs.size g cdg)) (E := E) (f := f) (c' := c1) (tk := s1.toks + ([] : List (Str × Value)).length) I L I1.env0 hr.hd un hns old
    refine PySem.W.kla_codeExpr (wpAny_mono ((hbody _ _ s1 H1 c1 (hr.deeper _)).run [] _ _ H1 Q J rd) ?_ fun e s' z => z)
    rintro v s' ⟨w', H', J', rv, q⟩
    exact ⟨w', H', J'.os, J'.bare, J'.base, J'.hok, rv, q⟩
  refine wpAny_call (codeAny_mono runs fun r s' hq => ?_)
  cases r with
  | error e => exact tk e s' (XE.of_call I1 hW hq)
  | ok fl =>
    cases fl with
    | ret u => exact I1.after hq
    | _ => exact False.elim hq
end
/-- the def g calls what it is handed: what it makes of the reading of that call -/
def Gives (X : Cx) (Ng : List Str) (x : Str) (sg : Scope) (g : Addr) (cdg : Value) (bg : List Stmt) (a : Str) (TT : Addr → (XK → Hp → VK → Prop) → Hp → VK → Prop) : Prop :=
  ∀ (f : Addr) (s : Shared) (H : Hp) (Q : VK) (tl : XK → Hp → VK → Prop),
    (∀ (W : WX) (pn : List (Addr × Obj)) (xe : Value → Shared → Prop) (E : XK) (p1 p2 : Pos), Takes ((inDef X Ng x sg g cdg s H).tr pn xe) W →
      PE ((inDef X Ng x sg g cdg s H).tr pn xe) (.Call (.Name a p1) [] [] p2) (fun σZ HZ Q => σZ[0]? = some (some (.ref f)) ∧ (∀ cls d H', E cls d H' → W cls d σZ H') ∧ tl E HZ Q)) →
    TT f tl H Q → ∃ t, PSs (inDef X Ng x sg g cdg s H).nox bg t ∧ t { nx := fun _ H' => Q .non H', rt := Q } (L2.start Ng [.ref f]) H
/-- a text of a lambda -/
structure LamT where
  ps : Arguments
  body : Expr
  sc : Scope
def tGive {ι : Type} (env : Env) (l : ι → LamT) (t : ι → XK → TE) (TT : Addr → (XK → Hp → VK → Prop) → Hp → VK → Prop) (te : TE) : TE := fun σ H Q => te σ H fun v H1 => ∃ (i : ι) (f : Addr), v = .ref f ∧ TT f (fun E H' Q' => LamAt env (l i).ps (l i).body (l i).sc H' f ∧ t i E σ H' Q') H1 Q
section
variable {X : Cx} {ι : Type}
/-- x(e), e giving one of the lambdas l -/
theorem pe_give {l : ι → LamT} {TT : Addr → (XK → Hp → VK → Prop) → Hp → VK → Prop} {x a : Str} {g : Addr} {k : Nat} {pg : Arguments} {bg : List Stmt} {sg : Scope} {dV kV doc pm cdv ct oc : Value} {an od : Option Addr} {osl : Array (Option Value)} {Ng : List Str} {e : Expr} {te : TE}
    {t : ι → XK → TE} {p pos : Pos} (hm : X.mg x = some (.ref g)) (hk : PySem.W.keepIn X.K (.ref g) = true)
    (lk : X.K.lookup g = some ⟨oc, od, .func (PySem.W.fnOf x x pg bg sg dV kV doc pm an cdv ct), osl⟩) (hcg : PySem.W.codeIn X.K cdv x = true) (hb : L2.Binds X.K (PySem.W.fnOf x x pg bg sg dV kV doc pm an cdv ct) [a] []) (Sg : FnScope Ng [a] sg) (hNg : Ng[0]? = some a) (hva : Vis sg a)
    (hG : Gives X Ng x sg g cdv bg a TT) (hr : Room (k + 2) X.A) (L : ∀ i, LamS X.env.scope (l i).sc)
    (hbind : ∀ (i : ι) (cl : List (Str × Addr)) (pm cv ctv : Value), bindArgs (PySem.W.kla_fn "<lambda>" (X.env.qual ++ "<lambda>") (l i).ps (l i).body (l i).sc cl pm cv ctv) ⟨[], []⟩ = pure [])
    (he : PE X e te)
    (hbody : ∀ (i : ι) (A : Around) (outer : List Env) (s : Shared) (H : Hp) (E : XK) (f c' : Addr), Room k (A.deeper (lamEnv X (l i).sc s.heap.objs.size f c')) → PE (lamCx X A outer s H E (l i).sc f c') (l i).body (t i E))
    (hg : Gl X x := by rfl) (hst : starEach [e] X.env = (false, eval e X.env) :: starEach [] X.env := by rfl) (hpl : (backTo pos (starEach [] X.env)).any (·.1) = false := by rfl)
    (hdb : (x == ("__debug__" : Str)) = false := by decide) (hd : (a == ("__debug__" : Str)) = false := by decide) (hcd : (a == ("__classdict__" : Str)) = false := by decide) :
    PE X (.Call (.Name x p) [e] [] pos) (tGive X.env l t TT te) := by
  refine ⟨fun pins s σ H Q I h => ?_⟩
  refine wpAny_Call_Name_kw (ld_glob I hg hm ?_ hdb)
  have ha : PA X [e] (tCons te tNil) := pa_cons (hs := hst) he pa_nil
  refine PySem.W.callWith_K (h₀ := X.base) I.ok.mod.kin hk (thn (ha.run pos pins s σ H (fun vs H1 => ∃ v, vs = [v] ∧ ∃ (i : ι) (f : Addr), v = .ref f ∧ TT f (fun E H' Q' => LamAt X.env (l i).ps (l i).body (l i).sc H' f ∧ t i E σ H' Q') H1 Q) I ?_) ?_) hst hpl
  · show te σ H fun y H1 => ∃ v, [y] = [v] ∧ _
    have e1 : (fun (y : V) (H1 : Hp) => ∃ v, [y] = [v] ∧ ∃ (i : ι) (f : Addr), v = .ref f ∧ TT f (fun E H' Q' => LamAt X.env (l i).ps (l i).body (l i).sc H' f ∧ t i E σ H' Q') H1 Q) = fun (y : V) (H1 : Hp) => ∃ (i : ι) (f : Addr), y = .ref f ∧ TT f (fun E H' Q' => LamAt X.env (l i).ps (l i).body (l i).sc H' f ∧ t i E σ H' Q') H1 Q := by
      funext y H1
      refine propext ⟨fun ⟨v, z, r⟩ => ?_, fun r => ⟨y, rfl, r⟩⟩
      cases z
      exact r
    rw [e1]
    exact h
  · rintro us s1 ⟨vs, H1, I1, r, v, rfl, i, f, rfl, ht⟩
    refine ⟨I1.kIn, ?_⟩
    cases r with
    | cons r1 rr =>
      cases rr
      cases r1
      have runs : codeAny (model X.prog X.w) X.A (.call (.ref g) ⟨[.ref f], []⟩) (CR CX0 X.stack X.prog X.w H1 s1 Q E0) s1 := by
        refine run_ofS (N := Ng) (ps := [a]) (us := [.ref f]) (vs := [.ref f]) lk hcg Sg hr I1.env0 (hb s1 [.ref f] I1.kIn rfl) (.cons rfl .nil) rfl fun hr' => ?_
        obtain ⟨t', h1, h2⟩ := hG f s1 H1 Q (fun E H' Q' => LamAt X.env (l i).ps (l i).body (l i).sc H' f ∧ t i E σ H' Q')
          (fun W pn xe E p1 p2 tk => pe_actV (i := 0) I1 (L i) (hbind i) tk hr' (fun A outer s H c' hr2 => hbody i A outer s H E f c' hr2) hNg hva hd hcd) ht
        exact ⟨t', h1.nox, h2⟩
      refine wpAny_call (codeAny_mono runs fun r s2 hq => ?_)
      cases r with
      | error e => exact (show False from hq).elim
      | ok fl =>
        cases fl with
        | ret u => exact I1.after hq
        | _ => exact False.elim hq
end
end My

/-! own layer, 22: try .. except X as n, the error kept behind it -/
namespace My
open PySem PySem.Spec PyProof.Rows L2
/-- an error of the class cls, its dict d, that was caught, stands at a -/
def erk (a : Addr) (cls : Value) (d : Option Addr) : HO := .ext fun h => ∃ (oe : Obj) (vs : Array Value), h.get? a = some oe ∧ Zc cls d oe ∧ oe.data = .fields vs
theorem erk_ok {P : Program} {w : World} {H : Hp} {h : Heap} {a : Addr} {cls : Value} {d : Option Addr} {oe : Obj} {vs : Array Value} (e : h.get? a = some oe) (z : Zc cls d oe) (f : oe.data = .fields vs) : ObjOk P w H h a (erk a cls d) :=
  ⟨⟨oe, vs, e, z, f⟩, ⟨oe, e⟩, fun h1 h2 ⟨o, v, q, r⟩ k => ⟨o, v, k _ q, r⟩⟩
/-- what is wished of an error of the body: it is one of the class c, and is kept -/
def wKeep (K : PySem.W.Frag) (c : Value) (i : Nat) (ts : Addr → Value → Option Addr → TS) (D : Ends) : WX := fun cls d σ H => PySem.W.exmOne K cls c = some true ∧
  ∀ a, H a = none → ts a cls d { nx := fun σ' H' => H' a = none → D.nx (σ'.set i none) (upd H' a (erk a cls d)), rt := fun _ _ => False, bk := fun _ _ => False, ct := fun _ _ => False } (σ.set i (some (.ref a))) H
section
variable {X : Cx} {x n : Str} {c : Value} {i : Nat} {body suite : List Stmt} {b₀ : Stmt} {np pos pos' : Pos} {tb : WX → TS} {ts : Addr → Value → Option Addr → TS}
theorem ps_try_keep (hs : X.stack = X.env :: X.outer) (hf : X.env.frame = some X.env.locals) (hex : X.ex = []) (hN : X.N.Nodup) (hi : X.N[i]? = some n) (hln : X.env.kindOf n = some .local) (hc : Names X x c)
    (hb : ∀ (W : WX) (pn : List (Addr × Obj)) (xe : Value → Shared → Prop), Takes (X.tr pn xe) W → PassesOwn (model X.prog X.w) X.A X.env xe → PSs (X.tr pn xe) body (tb W))
    (hsu : ∀ (a : Addr) (oe : Obj) (cls : Value) (d : Option Addr) (pn : List (Addr × Obj)), Zc cls d oe → (∃ vs, oe.data = .fields vs) → PSs (X.suite a ((a, oe) :: pn)) (b₀ :: suite) (ts a cls d)) :
    PS X (.Try body [.ExceptHandler (some (.Name x np)) (some n) (b₀ :: suite) pos'] [] [] pos) (fun D σ H => tb (wKeep X.K c i ts D) D σ H) := by
  refine ⟨fun pins s σ H D I h => wpAny_Try_except ?_⟩
  have frames : X.A.frames = some (X.env :: X.outer) := by rw [I.ok.frames, hs]
  have hloc : Loc X.env.scope n := .inl hln
  have runs := fun tk => (hb (wKeep X.K c i ts D) (X.pn ++ pins)
    (fun e s₁ => wpAny (model X.prog X.w) X.A (noteFrame e X.env) (fun _ s₂ =>
      wpAny (model X.prog X.w) X.A (setFlight e none) (fun _ s₃ => wpAny (model X.prog X.w) X.A (handleBy e X.env [.ExceptHandler (some (.Name x np)) (some n) (b₀ :: suite) pos']) (SP X pins D) X.xe s₃) X.xe s₂) X.xe s₁)
    tk PassesOwn.looking).run [] s σ H D (I.toTry _) h
  refine wpAny_mono (runs ?_) (fun f s1 hsp => ?_) (fun _ _ z => z)
  · rintro u s' ⟨a, B, sI, pins', σ', H', cls, d, rfl, J', nb, up, sky, na, os, ag, isC, yes⟩
    have J := J'.ofTry I.ok
    rw [show (X.tr (X.pn ++ pins) _).stack = X.env :: X.outer from hs] at sky
    show wpAny (model X.prog X.w) X.A (noteFrame (.ref a) X.env) _ _ _
    refine Sky.land Zc.steady frames hf sky ?_
    intro h3 fly up3
    have J3 : L2.Inv X pins σ' H' { s' with heap := h3 } := J.landed nb fly.1 (up.trans up3) os ag
    obtain ⟨o3, v3, e3, z3, d3⟩ := fly.there
    have nfr : a ∉ frs (X.env :: X.outer) := fun hm => by
      obtain ⟨_, o', e', hnf⟩ := fly.2.2.1.mem hm
      rw [e3] at e'
      cases e'
      exact hnf _ d3
    have nL : a ≠ X.env.locals := fun z => nfr (List.mem_filterMap.mpr ⟨X.env, List.mem_cons_self, by rw [hf, z]⟩)
    have nF : a ∉ X.fs := fun hm => by
      obtain ⟨e, he, q⟩ := List.mem_filterMap.mp hm
      exact nfr (List.mem_filterMap.mpr ⟨e, List.mem_cons_of_mem _ he, q⟩)
    -- the error is newer than the frame
    have fresh : sI.heap.get? a = none := by
      cases e : sI.heap.get? a with
      | none => rfl
      | some o =>
        have z := nb a o e (by rw [show (X.tr (X.pn ++ pins) _).stack = X.env :: X.outer from hs]; exact nfr)
        rw [fly.2.1] at z
        cases z
    have fresh0 : X.s_0.heap.get? a = none := by
      cases e : X.s_0.heap.get? a with
      | none => rfl
      | some o =>
        obtain ⟨o', z⟩ := J.base.there a o e (by rw [hex]; exact fun z => nomatch z)
        rw [fresh] at z
        cases z
    have unpinned : ∀ p ∈ X.pn ++ pins, p.1 ≠ a := fun p hp z => by
      have q := (J.pin p hp).1
      rw [z, fresh] at q
      cases q
    have S3 := J3.suite e3 d3 na nL nF
    refine wpAny_handleBy_cons (codeAny_handlers_test ?_) (by intro q; cases q)
    have ofC : PySem.W.Looks (model X.prog X.w) h3 (typeOf (.ref a)) cls := fun A Q E s k q => wpAny_typeOf_ref (k _ _ e3) (by rw [z3.1]; exact q)
    have asks := PySem.W.exm_one (M := model X.prog X.w) J3.kIn ofC isC
    have named : ∀ {Q E : Value → Shared → Prop}, Q c { s' with heap := h3 } → wpAny (model X.prog X.w) (X.A.mark (some (.ref a))) (eval (.Name x np) X.env) Q E { s' with heap := h3 } := by
      intro Q E q
      obtain ⟨g1, g2, g3 | ⟨g3, g4, g5⟩⟩ := hc
      · exact ld_glob (X := X.suite a ((a, o3) :: (X.pn ++ pins))) S3 g1 g3 q g2
      · exact ld_blt (X := X.suite a ((a, o3) :: (X.pn ++ pins))) S3 g1 g3 g4 q g5 g2
    refine named (asks.here (codeAny_handlers_suite_as ?_))
    refine HandSPX.lands_againZ fly ?_
    intro h4 fly4 up4
    have J4 : L2.Inv X pins σ' H' { s' with heap := h4 } := J.landed nb fly4.1 ((up.trans up3).trans up4) os ag
    obtain ⟨o4, v4, e4, z4, d4⟩ := fly4.there
    refine store_ok (X := X.suite a ((a, o4) :: (X.pn ++ pins))) (v := .ref a) (J4.suite e4 d4 na nL nF) hN hi hloc rfl (fun s5 S5 => ?_) (.inr hln)
    refine wpAny_mono ((hsu a o4 cls d (X.pn ++ pins) z4 ⟨_, d4⟩).run [] s5 _ H' _ S5 (yes a na)) ?_ (fun _ _ z => False.elim z)
    intro f s6 hsp
    cases f with
    | next =>
      obtain ⟨σ6, H6, S6, q6⟩ := hsp
      have n6 := (S6.pin (a, o4) (by simp [Cx.suite])).2.1
      have P6 : L2.Inv X ((a, o4) :: pins) σ6 H6 s6 := ⟨I.ok, S6.os, S6.bare, S6.base, S6.loc, S6.cell, S6.free, S6.freeC, fun p hp => S6.pin p (by
        rcases List.mem_append.mp hp with z | z
        · exact List.mem_append_left _ (List.mem_cons_of_mem _ (List.mem_append_left _ z))
        · rcases List.mem_cons.mp z with z | z
          · exact List.mem_append_left _ (by rw [z]; exact List.mem_cons_self)
          · exact List.mem_append_left _ (List.mem_cons_of_mem _ (List.mem_append_right _ z))), S6.hok, S6.len⟩
      refine gone_ok P6 hN hi hln fun s7 P7 => ?_
      obtain ⟨e7, n7, _⟩ := P7.pin (a, o4) (List.mem_append_right _ List.mem_cons_self)
      have J7 : L2.Inv X pins (σ6.set i none) H6 s7 := ⟨P7.ok, P7.os, P7.bare, P7.base, P7.loc, P7.cell, P7.free, P7.freeC, fun p hp => P7.pin p (by
        rcases List.mem_append.mp hp with z | z
        · exact List.mem_append_left _ z
        · exact List.mem_append_right _ (List.mem_cons_of_mem _ z)), P7.hok, P7.len⟩
      exact ⟨_, _, Inv.track J7 n7 fresh0 nL (fun v ⟨o, q1, q2⟩ => by rw [e7] at q1; cases q1; rw [d4] at q2; cases q2) unpinned (erk_ok e7 z4 d4), q6 n6⟩
    | brk =>
      obtain ⟨_, _, _, q6⟩ := hsp
      exact q6.elim
    | cont =>
      obtain ⟨_, _, _, q6⟩ := hsp
      exact q6.elim
    | ret u =>
      obtain ⟨_, _, _, _, _, q6⟩ := hsp
      exact q6.elim
  · cases f with
    | next =>
      obtain ⟨σ1, H1, J1, q⟩ := hsp
      exact wpAny_execs_nil ⟨σ1, H1, J1.ofTry I.ok, q⟩
    | brk =>
      obtain ⟨σ1, H1, J1, q⟩ := hsp
      exact ⟨σ1, H1, J1.ofTry I.ok, q⟩
    | cont =>
      obtain ⟨σ1, H1, J1, q⟩ := hsp
      exact ⟨σ1, H1, J1.ofTry I.ok, q⟩
    | ret u =>
      obtain ⟨v, σ1, H1, J1, r, q⟩ := hsp
      exact ⟨v, σ1, H1, J1.ofTry I.ok, r, q⟩
end
end My

/-! own layer, 23: caught = back = None; try: back = look() / except X as error: caught = error; return (caught, back) -/
namespace My
open PySem PySem.Spec PyProof.Rows L2 LamX
def toldD (Q : VK) : Ends := { nx := fun σ H => tRet (tTup (tCons (tVar 1) (tCons (tVar 2) tNil))) { nx := fun _ H' => Q .non H', rt := Q } σ H, rt := Q }
abbrev toldS (f : Addr) : L2.St := [some (.ref f), some .non, some .non, none]
def ToldX (K : PySem.W.Frag) (M f : Addr) (Q : VK) : XK := fun cls d H' => wKeep K (.ref M) 3 (fun _ _ _ => tAsg (tVar 3) (gName 1)) (toldD Q) cls d (toldS f) H'
def ToldR (f : Addr) (Q : VK) : VK := fun v H1 => gName 2 v (toldS f) H1 (toldD Q).nx
def TTold (K : PySem.W.Frag) (M f : Addr) : (XK → Hp → VK → Prop) → Hp → VK → Prop := fun tl H Q => ∀ H1, Same H H1 → tl (ToldX K M f Q) H1 (ToldR f Q)
section
variable {K : PySem.W.Frag} {M f : Addr} {Q : VK} {H : Hp} {v : V} {cls : Value} {d : Option Addr}
theorem told_ret (h : ∀ t H2, Same H H2 → H t = none → H2 t = some (.tup [.non, v]) → Q (.ref t) H2) : ToldR f Q v H := by
  show tRet (tTup (tCons (tVar 1) (tCons (tVar 2) tNil))) { nx := fun _ H' => Q .non H', rt := Q } [some (.ref f), some .non, some v, none] H
  refine i_ret (i_tup (i_cons (i_var rfl (i_cons (i_var rfl (i_nil ?_))))))
  exact ⟨Nat.le_of_ble_eq_true rfl, i_new h⟩
theorem told_exc (hm : PySem.W.exmOne K cls (.ref M) = some true) (h : ∀ a H1 t H2, Same H H1 → H a = none → H1 a = some (erk a cls d) → Same H1 H2 → H1 t = none → H2 t = some (.tup [.ref a, .non]) → Q (.ref t) H2) : ToldX K M f Q cls d H := by
  refine ⟨hm, fun a ha => ?_⟩
  refine i_asg (i_var rfl (i_gname ?_))
  intro _
  show tRet (tTup (tCons (tVar 1) (tCons (tVar 2) tNil))) { nx := fun _ H' => Q .non H', rt := Q } [some (.ref f), some (.ref a), some .non, none] (upd H a (erk a cls d))
  refine i_ret (i_tup (i_cons (i_var rfl (i_cons (i_var rfl (i_nil ?_))))))
  refine ⟨Nat.le_of_ble_eq_true rfl, i_new fun t H2 S n e => ?_⟩
  exact h a (upd H a (erk a cls d)) t H2 (fun b o z => by rw [upd_ne (ne_of_none z ha)]; exact z) ha upd_same S n e
end
/-! ### the kept error, read -/
/-- a kept error of the class at C that holds v -/
def KeptAt (H : Hp) (C a : Addr) (v : V) : Prop := ∃ d, H a = some (erk a (.ref C) (some d)) ∧ H d = some (.xd [("value", v)])
theorem KeptAt.same {H H' : Hp} {C a : Addr} {v : V} (h : KeptAt H C a v) (S : Same H H') : KeptAt H' C a v := by
  obtain ⟨d, h1, h2⟩ := h
  exact ⟨d, S _ _ h1, S _ _ h2⟩
theorem kept_inst {X : Cx} {pins : List (Addr × Obj)} {σ : L2.St} {H : Hp} {s : Shared} {C a : Addr} {v : V} (I : L2.Inv X pins σ H s) (h : KeptAt H C a v) : ∃ ox od u, PySem.W.InstAt s.heap a ox C (some od) ∧ PySem.W.lookIn "value" od = some (some u) ∧ RelV v u := by
  obtain ⟨d, h1, h2⟩ := h
  obtain ⟨oe, vs, e, z, f⟩ : ∃ (oe : Obj) (vs : Array Value), s.heap.get? a = some oe ∧ Zc (.ref C) (some d) oe ∧ oe.data = .fields vs := by
    have z : ObjOk X.prog X.w H s.heap a (.ext fun h => ∃ (oe : Obj) (vs : Array Value), h.get? a = some oe ∧ Zc (.ref C) (some d) oe ∧ oe.data = .fields vs) := I.hok a _ h1
    exact z.1
  obtain ⟨mA, hns, rel⟩ := I.hok d _ h2
  obtain ⟨od, hd, hl⟩ := lookIn_ns hns
  obtain ⟨u, hu, ru⟩ := RelO.some_of (v := v) (o := mA "value") (rel "value")
  exact ⟨oe, od, u, ⟨e, z.1, by unfold PySem.W.notCls; rw [f] <;> rfl, by rw [z.2]; exact hd⟩, by rw [hl, hu], ru⟩
def KeptVQ (K : PySem.W.Frag) (x : V) (H : Hp) (Q : VK) : Prop := ∃ (a C : Addr) (v : V), x = .ref a ∧ KeptAt H C a v ∧ EOk K C ∧ Q v H
def tKeptV (K : PySem.W.Frag) (te : TE) : TE := fun σ H Q => te σ H fun x H1 => KeptVQ K x H1 Q
theorem pe_kept {X : Cx} {e : Expr} {te : TE} {pos : Pos} (he : PE X e te) (hb : attributeBase e "value" X.env (eval e X.env) = eval e X.env := by rfl) : PE X (.Attribute e "value" pos) (tKeptV X.K te) := by
  refine ⟨fun pins s σ H Q I h => attr_of hb (thn (he.run pins s σ H _ I h) ?_)⟩
  rintro u s1 ⟨x, H1, I1, rx, a, C, v, ex, hk, T, q⟩
  subst ex
  obtain rfl : u = Value.ref a := rx
  obtain ⟨ox, od, u, J, hu, ru⟩ := kept_inst I1 hk
  exact HandSPX.exc_get I1.kIn J T.x.ga T.x.gg T.x.exC (PySem.W.findObj_own T.x.hdC T.no rfl hu) (handed_of ru) ⟨v, H1, I1.tok _, ru, q⟩
def rIsK (K : PySem.W.Frag) : List V → Hp → VK → Prop := fun xs H Q => ∃ (a C : Addr) (v c : V) (cv : Value) (b : Bool), xs = [.ref a, c] ∧ KeptAt H C a v ∧ EOk K C ∧ (∀ u, RelV c u → u = cv) ∧ PySem.W.kitOne K (.ref C) cv = some b ∧ Q (.bl b) H
theorem call_isK {X : Cx} : CallR X (.builtin "isinstance") (rIsK X.K) := by
  rintro pins s σ H xs us Q I r ⟨a, C, v, c, cv, b, rfl, hk, T, hcv, e, q⟩
  obtain ⟨ox, od, u, J, _⟩ := kept_inst I hk
  cases r with
  | cons rx rr =>
    cases rr with
    | cons rt rr =>
      cases rr
      cases rx
      have ec := hcv _ rt
      subst ec
      exact PySem.W.kia_one (er_kit T.e) I.kIn J e (fun z => nomatch z) fun tk => ⟨.bl b, H, I.kept (t' := tk) fun _ _ z => z, rfl, q⟩
section
variable {K : PySem.W.Frag} {σ : L2.St} {H : Hp} {te : TE} {Q : VK} {C a D : Addr} {v : V} {b : Bool}
theorem i_kept0 (h : te σ H fun x H1 => KeptVQ K x H1 Q) : tKeptV K te σ H Q := h
theorem i_kept (h : KeptAt H C a v) (T : EOk K C) (q : Q v H) : KeptVQ K (.ref a) H Q := ⟨a, C, v, rfl, h, T, q⟩
theorem i_isK (h : KeptAt H C a v) (T : EOk K C) (e : PySem.W.kitOne K (.ref C) (.ref D) = some b) (q : Q (.bl b) H) : rIsK K [.ref a, .ref D] H Q :=
  ⟨a, C, v, .ref D, .ref D, b, rfl, h, T, fun _ z => z, e, q⟩
/-- an own class of errors in an except clause -/
theorem exm_er (T : EOk K C) (h : PySem.W.subIn K (.ref a) (.ref C) = some b) : PySem.W.exmOne K (.ref a) (.ref C) = some b := PySem.W.exm_ref T.o.exC T.x.hdC T.o.tyC h
end
end My

/-! own layer, 24: values that are no ratios, and what raises for them -/
namespace My
open PySem PySem.Spec PyProof.Rows L2 LamX
theorem _root_.L2.FnOk.or {P : Program} {w : World} {K : PySem.W.Frag} {mg : Str → Option Value} {base : Heap} {CX : CXT} {k : Nat} {f : Addr} {fd : FuncData} {ps : List Str} {sp sq : Sp} (F : FnOk P w K mg base CX k f fd ps sp) (G : FnOk P w K mg base CX k f fd ps sq) :
    FnOk P w K mg base CX k f fd ps (fun vs H Q E => sp vs H Q E ∨ sq vs H Q E) :=
  ⟨fun vs H Q E h => h.elim (F.len vs H Q E) (G.len vs H Q E), fun A outer s H args us vs Q E hr e0 hb r h => h.elim (F.run A outer s H args us vs Q E hr e0 hb r) (G.run A outer s H args us vs Q E hr e0 hb r)⟩
/-- of which built-in kind a value is -/
inductive Kd (H : Hp) : V → String → Prop
  | non : Kd H .non "NoneType"
  | bl (b : Bool) : Kd H (.bl b) "bool"
  | int (i : Int) : Kd H (.int i) "int"
  | str (x : Str) : Kd H (.str x) "str"
  | lst {a : Addr} {xs : List V} : H a = some (.lst xs) → Kd H (.ref a) "list"
  | tup {a : Addr} {xs : List V} : H a = some (.tup xs) → Kd H (.ref a) "tuple"
  | dic {a : Addr} {ks : List (Key × V)} : H a = some (.dK ks) → Kd H (.ref a) "dict"
section
variable {K : PySem.W.Frag} {H H' : Hp} {v : V} {n : String} {Q : VK} {b : Bool}
theorem Kd.imp (h : Kd H v n) (S : ∀ a o, v = .ref a → H a = some o → H' a = some o) : Kd H' v n := by
  cases h with
  | non => exact .non
  | bl b => exact .bl b
  | int i => exact .int i
  | str x => exact .str x
  | lst e => exact .lst (S _ _ rfl e)
  | tup e => exact .tup (S _ _ rfl e)
  | dic e => exact .dic (S _ _ rfl e)
theorem Kd.same (h : Kd H v n) (S : Same H H') : Kd H' v n := h.imp fun a o _ e => S a o e
theorem Kd.tyx (h : Kd H v n) : TyX K H v (.type n) := by
  cases h with
  | non => exact .base .non
  | bl b => exact .base (.bl b)
  | int i => exact .base (.int i)
  | str x => exact .base (.str x)
  | lst e => exact .base (.lst e)
  | tup e => exact .base (.tup e)
  | dic e => exact .base (.dK e)
theorem i_isKd {m : String} (h : Kd H v n) (e : kitB n m = some b) (q : Q (.bl b) H) : rIsi K [v, .ty m] H Q := ⟨v, .ty m, _, _, b, rfl, .ty m, h.tyx, kit_ty e, q⟩
theorem i_isKo {C : Addr} (h : Kd H v n) (e : PySem.W.kitOne K (.type n) (.ref C) = some b) (q : Q (.bl b) H) : rIsi K [v, .ref C] H Q := ⟨v, .ref C, _, _, b, rfl, .own C, h.tyx, e, q⟩
end
/-- a value that is no ratio -/
inductive Odd (H : Hp) : V → Prop
  | kd {v : V} {n : String} : Kd H v n → n ≠ "tuple" → Odd H v
  | len {a : Addr} {xs : List V} : H a = some (.tup xs) → xs.length ≠ 2 → Odd H (.ref a)
  | fst {a : Addr} {x y : V} {n : String} : H a = some (.tup [x, y]) → Kd H x n → n ≠ "int" → Odd H (.ref a)
  | snd {a : Addr} {i : Int} {y : V} {n : String} : H a = some (.tup [.int i, y]) → Kd H y n → n ≠ "int" → Odd H (.ref a)
  | num {a : Addr} {i j : Int} : H a = some (.tup [.int i, .int j]) → ¬ (0 ≤ i ∧ 1 ≤ j ∧ Nat.gcd i.natAbs j.natAbs = 1) → Odd H (.ref a)
theorem Odd.same {H H' : Hp} {v : V} (h : Odd H v) (S : Same H H') : Odd H' v := by
  cases h with
  | kd k n => exact .kd (k.same S) n
  | len e n => exact .len (S _ _ e) n
  | fst e k n => exact .fst (S _ _ e) (k.same S) n
  | snd e k n => exact .snd (S _ _ e) (k.same S) n
  | num e n => exact .num (S _ _ e) n
/-! ### what is promised -/
def spIsIntK : Sp := fun vs H Q _ => ∃ (v : V) (n : String), vs = [v] ∧ Kd H v n ∧ Q (.bl (decide (n = "int"))) H
def spNotRatio : Sp := fun vs H Q _ => ∃ v, vs = [v] ∧ Odd H v ∧ Q (.bl false) H
/-- BadRatio of v is raised from H -/
def Rz (R : Addr) (H : Hp) (v : V) (E : XK) : Prop := ∀ (d : Addr) (H' : Hp), H d = none → Same H H' → H' d = some (.xd [("value", v)]) → E (.ref R) (some d) H'
theorem Rz.same {R : Addr} {H H' : Hp} {v : V} {E : XK} (h : Rz R H v E) (S : Same H H') : Rz R H' v E := fun d H2 n S2 e => h d H2 (S.free n) (S.trans S2) e
def spWeakX (R : Addr) : Sp := fun vs H _ E => ∃ u v : V, vs = [u, v] ∧ Odd H v ∧ Rz R H v E
def spInitX (K : PySem.W.Frag) (R : Addr) : Sp := fun vs H _ E => ∃ (s : Addr) (va vb w : V), vs = [.ref s, va, vb] ∧ ((w = va ∧ Odd H va) ∨ (w = vb ∧ Odd H vb ∧ ∃ (a : Addr) (p : Rat), va = .ref a ∧ SqT K H a (rat p) ∧ 0 ≤ p)) ∧ Rz R H w E
def spAtX (K : PySem.W.Frag) (C R : Addr) : Sp := fun vs H _ E => ∃ (s dx a b : Addr) (v : V), vs = [.ref s, v] ∧ H s = some (.ins C dx (srcF a b)) ∧ Odd H v ∧ Rz R H v E
section
variable {X : Cx} {CX : CXT} {k : Nat} {x m qual : Str} {st : Stmt} {ps : List Str} {sp : Sp} {p pos apos : Pos} {e o : Expr} {es : List Expr} {t : TA} {ta : TE} {C : Addr} {E : XK}
theorem pe_mkX {K : PySem.W.Frag} (hK : X.K = K) (g : GMk K X.mg x) {fm : GMe K (He.ga K x) "__init__" qual st ps} (F : FnAt X.prog X.w K X.mg X.base CX k (He.ma K (He.ga K x) "__init__") ps sp) (hr : Room (k + 1) X.A) (hx : Passes CX X E) (ha : PA X (e :: es) t) (hg : Gl X x := by rfl)
    (hdb : (x == ("__debug__" : Str)) = false := by decide) (he : starEach (e :: es) X.env = (false, eval e X.env) :: starEach es X.env := by rfl) (hpl : (backTo pos (starEach es X.env)).any (·.1) = false := by rfl) :
    PE X (.Call (.Name x p) (e :: es) [] pos) (tMake (He.ga K x) sp [] E t) := by
  subst hK
  exact pe_make g.k F hr hg g.m fm.b .nil hx ha hdb he hpl
theorem pe_meX {K : PySem.W.Frag} (hK : X.K = K) {pl : Sem Bool} (c : Cls K C) (g : GMe K C m qual st ps) (F : FnAt X.prog X.w K X.mg X.base CX k (He.ma K C m) ps sp) (hr : Room k X.A) (hx : Passes CX X E) (ho : PE X o ta) (ha : PA X (e :: es) t)
    (hst : starEach (e :: es) X.env = (false, eval e X.env) :: starEach es X.env := by rfl) (hpl : (backTo pos (starEach es X.env)).any (·.1) = false := by rfl)
    (ht : eval (.Call (.Attribute o m apos) (e :: es) [] pos) X.env = (do
      let ov ← eval o X.env
      standAt apos.atName
      let (f, first) ← holding [ov] (getMethod ov m pl)
      callWith pos f first (backTo pos (starEach (e :: es) X.env)) (backToKw pos (keywordEach [] X.env))) := by rfl) :
    PE X (.Call (.Attribute o m apos) (e :: es) [] pos) (tMeth C m sp [] E ta t) := by
  subst hK
  exact pe_meth ho c g.h F hr g.b .nil hx ha hst hpl ht
/-- x == y of an own instance and a value of a built-in kind -/
def rOwnT (K : PySem.W.Frag) (C : Addr) (sp : Sp) : R2 := fun x y H Q => ∃ (a dx : Addr) (fs : List (Str × V)) (n : String), x = .ref a ∧ H a = some (.ins C dx fs) ∧ Kd H y n ∧ PySem.W.notFirst K C (.type n) = true ∧ sp [x, y] H Q E0
theorem cm_ownT {op : CmpOp} (g : GOp X.K C m qual st) (hm : (PySem.cmpInfo op).2.1 = m) (hop : ∀ v u, compareOp op v u = richCompare op v u) (F : FnAt X.prog X.w X.K X.mg X.base CX k (He.ma X.K C m) ["self", "other"] sp) (hr : Room k X.A)
    (hx : Passes CX X E0 := by first | exact pass0 | exact passL) : OpR X (compareOp op) (rOwnT X.K C sp) := by
  rintro pins s σ H x y v u Q I rx ry ⟨a, dx, fs, n, rfl, ha, hk, hn, hsp⟩
  cases rx
  obtain ⟨mA, J, _⟩ := ins_get I.hok ha
  obtain ⟨od, J, _⟩ := J.look
  obtain ⟨P, kit, hp, _⟩ := kit_of I ry (hk.tyx (K := X.K))
  obtain ⟨mm, hF⟩ := I.fr
  subst hm
  rw [hop]
  refine PySem.W.cmp_K (tb := .type n) hr.units0 hF I.ok.mod.kin J (kit.ty _ _ I.kIn hp) hn g.at_ g.fn ?_
  exact thn (run_fn (vs := [.ref a, y]) F hr g.b .nil hx I (.cons rfl (.cons ry .nil)) hsp) fun r s' q => back_of q
end
/-- == of a source and what is no source -/
def spEqNo (K : PySem.W.Frag) (C : Addr) : Sp := fun vs H Q _ => ∃ (s : Addr) (y : V) (n : String), vs = [.ref s, y] ∧ Kd H y n ∧ PySem.W.kitOne K (.type n) (.ref C) = some false ∧ Q (.bl false) H
end My

/-! own layer, 25: what the defs of the law of sources promise -/
namespace My
open PySem PySem.Spec PyProof.Rows L2 LamX
theorem i_dnew {σ : L2.St} {H : Hp} {Q : VK} (h : ∀ d H1, Same H H1 → H d = none → H1 d = some (.dK []) → Q (.ref d) H1) : tDNewK σ H Q := i_new h
theorem i_cat {H : Hp} {Q : VK} {xs ys : List V} {l b : Addr} (h1 : H l = some (.lst xs)) (h2 : H b = some (.lst ys)) (z : xs.length + ys.length ≤ sizeLine) (h : ∀ t H1, Same H H1 → H t = none → H1 t = some (.lst (xs ++ ys)) → Q (.ref t) H1) : rCat (.ref l) (.ref b) H Q :=
  ⟨l, b, xs, ys, rfl, rfl, h1, h2, z, i_new h⟩
def spOdd : Sp := fun vs H Q _ => ∃ (p : Addr) (n : Int), vs = [.ref p] ∧ Pot H p n ∧ n < 900000 ∧ ∀ (v : V) (d : PyData) (H' : Hp), But p H H' → Pot H' p (n + 1) → (∀ H2, But p H' H2 → Odd H2 v) → Dv (fun a => H a = none) H' 3 v d → Q v H'
def Odds16 (t1 t2 t3 l4 t5 t6 t7 t8 : Addr) : List V := [.non, .bl true, .bl false, .int 0, .int 1, .str "", .str "1", .str "1/2", .ref t1, .ref t2, .ref t3, .ref l4, .ref t5, .ref t6, .ref t7, .ref t8]
def Odds10 (t10 t11 t12 t13 t14 t16 d17 t18 t19 l21 : Addr) : List V := [.ref t10, .ref t11, .ref t12, .ref t13, .ref t14, .ref t16, .ref d17, .ref t18, .ref t19, .ref l21]
theorem odds_dv {F : Addr → Prop} {H : Hp} {t1 t2 t3 l4 t5 t6 t7 t8 t10 t11 t12 t13 t14 t15 t16 d17 t18 t19 t20 l21 : Addr} {v : V} (hv : v ∈ Odds16 t1 t2 t3 l4 t5 t6 t7 t8 ++ Odds10 t10 t11 t12 t13 t14 t16 d17 t18 t19 l21)
    (F_t1 : F t1) (F_t2 : F t2) (F_t3 : F t3) (F_l4 : F l4) (F_t5 : F t5) (F_t6 : F t6) (F_t7 : F t7) (F_t8 : F t8) (F_t10 : F t10) (F_t11 : F t11) (F_t12 : F t12) (F_t13 : F t13) (F_t14 : F t14) (F_t15 : F t15) (F_t16 : F t16) (F_d17 : F d17) (F_t18 : F t18) (F_t19 : F t19) (F_t20 : F t20) (F_l21 : F l21)
    (e_t1 : H t1 = some (.tup [])) (e_t2 : H t2 = some (.tup [.int 1])) (e_t3 : H t3 = some (.tup [.int 1, .int 1, .int 1])) (e_l4 : H l4 = some (.lst [.int 1, .int 2])) (e_t5 : H t5 = some (.tup [.int 2, .int 4])) (e_t6 : H t6 = some (.tup [.int 0, .int 2])) (e_t7 : H t7 = some (.tup [.int (-1), .int 2])) (e_t8 : H t8 = some (.tup [.int 1, .int 0])) (e_t10 : H t10 = some (.tup [.int 1, .int (-1)])) (e_t11 : H t11 = some (.tup [.bl true, .int 2])) (e_t12 : H t12 = some (.tup [.int 1, .bl true])) (e_t13 : H t13 = some (.tup [.str "1", .int 1])) (e_t14 : H t14 = some (.tup [.int 1, .non])) (e_t15 : H t15 = some (.tup [.int 1, .int 1])) (e_t16 : H t16 = some (.tup [.ref t15, .int 1])) (e_d17 : H d17 = some (.dK [])) (e_t18 : H t18 = some (.tup [.int 0, .int 0])) (e_t19 : H t19 = some (.tup [.int 6, .int 3])) (e_t20 : H t20 = some (.tup [.int 1, .int 1])) (e_l21 : H l21 = some (.lst [.ref t20])) :
    Odd H v ∧ ∃ d, Dv F H 3 v d := by
  unfold Odds16 Odds10 at hv
  simp only [List.mem_append, List.mem_cons, List.not_mem_nil, or_false] at hv
  have li : ∀ i : Int, i.natAbs < 2 ^ 400 → Lf (.int i) (.int i) := fun i h => .inr (.inr (.inl ⟨i, rfl, rfl, h⟩))
  have lb : ∀ b : Bool, Lf (.bl b) (.bool b) := fun b => .inr (.inl ⟨b, rfl, rfl⟩)
  have ls : ∀ x : Str, (reprText x).length ≤ 60 → Lf (.str x) (.str x) := fun x h => .inr (.inr (.inr ⟨x, rfl, rfl, h⟩))
  have ln : Lf .non .none := .inl ⟨rfl, rfl⟩
  have lift : ∀ {n : Nat} {x : V} {d : PyData}, Lf x d → Dv F H n x d := fun {n x d} h => by cases n <;> first | exact h | exact .inl h
  rcases hv with (rfl | rfl | rfl | rfl | rfl | rfl | rfl | rfl | rfl | rfl | rfl | rfl | rfl | rfl | rfl | rfl) | (rfl | rfl | rfl | rfl | rfl | rfl | rfl | rfl | rfl | rfl)
  · exact ⟨.kd .non (by decide), _, lift ln⟩
  · exact ⟨.kd (.bl _) (by decide), _, lift (lb true)⟩
  · exact ⟨.kd (.bl _) (by decide), _, lift (lb false)⟩
  · exact ⟨.kd (.int _) (by decide), _, lift (li 0 (by decide +kernel))⟩
  · exact ⟨.kd (.int _) (by decide), _, lift (li 1 (by decide +kernel))⟩
  · exact ⟨.kd (.str _) (by decide), _, lift (ls "" (by decide +kernel))⟩
  · exact ⟨.kd (.str _) (by decide), _, lift (ls "1" (by decide +kernel))⟩
  · exact ⟨.kd (.str _) (by decide), _, lift (ls "1/2" (by decide +kernel))⟩
  · exact ⟨.len e_t1 (by show (0 : Nat) ≠ 2; decide), _, .inr ⟨t1, rfl, F_t1, .inr (.inl ⟨_, _, rfl, e_t1, (.nil), Nat.le_of_ble_eq_true rfl⟩)⟩⟩
  · exact ⟨.len e_t2 (by show (1 : Nat) ≠ 2; decide), _, .inr ⟨t2, rfl, F_t2, .inr (.inl ⟨_, _, rfl, e_t2, (.cons (lift (li (1) (by decide +kernel))) .nil), Nat.le_of_ble_eq_true rfl⟩)⟩⟩
  · exact ⟨.len e_t3 (by show (3 : Nat) ≠ 2; decide), _, .inr ⟨t3, rfl, F_t3, .inr (.inl ⟨_, _, rfl, e_t3, (.cons (lift (li (1) (by decide +kernel))) (.cons (lift (li (1) (by decide +kernel))) (.cons (lift (li (1) (by decide +kernel))) .nil))), Nat.le_of_ble_eq_true rfl⟩)⟩⟩
  · exact ⟨.kd (.lst e_l4) (by decide), _, .inr ⟨l4, rfl, F_l4, .inl ⟨_, _, rfl, e_l4, (.cons (lift (li (1) (by decide +kernel))) (.cons (lift (li (2) (by decide +kernel))) .nil)), Nat.le_of_ble_eq_true rfl⟩⟩⟩
  · exact ⟨.num e_t5 (by decide), _, .inr ⟨t5, rfl, F_t5, .inr (.inl ⟨_, _, rfl, e_t5, (.cons (lift (li (2) (by decide +kernel))) (.cons (lift (li (4) (by decide +kernel))) .nil)), Nat.le_of_ble_eq_true rfl⟩)⟩⟩
  · exact ⟨.num e_t6 (by decide), _, .inr ⟨t6, rfl, F_t6, .inr (.inl ⟨_, _, rfl, e_t6, (.cons (lift (li (0) (by decide +kernel))) (.cons (lift (li (2) (by decide +kernel))) .nil)), Nat.le_of_ble_eq_true rfl⟩)⟩⟩
  · exact ⟨.num e_t7 (by decide), _, .inr ⟨t7, rfl, F_t7, .inr (.inl ⟨_, _, rfl, e_t7, (.cons (lift (li (-1) (by decide +kernel))) (.cons (lift (li (2) (by decide +kernel))) .nil)), Nat.le_of_ble_eq_true rfl⟩)⟩⟩
  · exact ⟨.num e_t8 (by decide), _, .inr ⟨t8, rfl, F_t8, .inr (.inl ⟨_, _, rfl, e_t8, (.cons (lift (li (1) (by decide +kernel))) (.cons (lift (li (0) (by decide +kernel))) .nil)), Nat.le_of_ble_eq_true rfl⟩)⟩⟩
  · exact ⟨.num e_t10 (by decide), _, .inr ⟨t10, rfl, F_t10, .inr (.inl ⟨_, _, rfl, e_t10, (.cons (lift (li (1) (by decide +kernel))) (.cons (lift (li (-1) (by decide +kernel))) .nil)), Nat.le_of_ble_eq_true rfl⟩)⟩⟩
  · exact ⟨.fst e_t11 (.bl _) (by decide), _, .inr ⟨t11, rfl, F_t11, .inr (.inl ⟨_, _, rfl, e_t11, (.cons (lift (lb true)) (.cons (lift (li (2) (by decide +kernel))) .nil)), Nat.le_of_ble_eq_true rfl⟩)⟩⟩
  · exact ⟨.snd e_t12 (.bl _) (by decide), _, .inr ⟨t12, rfl, F_t12, .inr (.inl ⟨_, _, rfl, e_t12, (.cons (lift (li (1) (by decide +kernel))) (.cons (lift (lb true)) .nil)), Nat.le_of_ble_eq_true rfl⟩)⟩⟩
  · exact ⟨.fst e_t13 (.str _) (by decide), _, .inr ⟨t13, rfl, F_t13, .inr (.inl ⟨_, _, rfl, e_t13, (.cons (lift (ls "1" (by decide +kernel))) (.cons (lift (li (1) (by decide +kernel))) .nil)), Nat.le_of_ble_eq_true rfl⟩)⟩⟩
  · exact ⟨.snd e_t14 (.non) (by decide), _, .inr ⟨t14, rfl, F_t14, .inr (.inl ⟨_, _, rfl, e_t14, (.cons (lift (li (1) (by decide +kernel))) (.cons (lift ln) .nil)), Nat.le_of_ble_eq_true rfl⟩)⟩⟩
  · exact ⟨.fst e_t16 (.tup e_t15) (by decide), _, .inr ⟨t16, rfl, F_t16, .inr (.inl ⟨_, _, rfl, e_t16, (.cons (.inr ⟨t15, rfl, F_t15, .inr (.inl ⟨_, _, rfl, e_t15, (.cons (lift (li (1) (by decide +kernel))) (.cons (lift (li (1) (by decide +kernel))) .nil)), by decide⟩)⟩) (.cons (lift (li (1) (by decide +kernel))) .nil)), Nat.le_of_ble_eq_true rfl⟩)⟩⟩
  · exact ⟨.kd (.dic e_d17) (by decide), .dict [], .inr ⟨d17, rfl, F_d17, .inr (.inr (.inl ⟨rfl, e_d17⟩))⟩⟩
  · exact ⟨.num e_t18 (by decide), _, .inr ⟨t18, rfl, F_t18, .inr (.inl ⟨_, _, rfl, e_t18, (.cons (lift (li (0) (by decide +kernel))) (.cons (lift (li (0) (by decide +kernel))) .nil)), Nat.le_of_ble_eq_true rfl⟩)⟩⟩
  · exact ⟨.num e_t19 (by decide), _, .inr ⟨t19, rfl, F_t19, .inr (.inl ⟨_, _, rfl, e_t19, (.cons (lift (li (6) (by decide +kernel))) (.cons (lift (li (3) (by decide +kernel))) .nil)), Nat.le_of_ble_eq_true rfl⟩)⟩⟩
  · exact ⟨.kd (.lst e_l21) (by decide), _, .inr ⟨l21, rfl, F_l21, .inl ⟨_, _, rfl, e_l21, (.cons (.inr ⟨t20, rfl, F_t20, .inr (.inl ⟨_, _, rfl, e_t20, (.cons (lift (li (1) (by decide +kernel))) (.cons (lift (li (1) (by decide +kernel))) .nil)), by decide⟩)⟩) .nil), Nat.le_of_ble_eq_true rfl⟩⟩⟩
/-! ### ratios, written out -/
def ratD (p : Rat) : PyData := .tuple [.int p.num, .int p.den]
section
variable {K : PySem.W.Frag} {H : Hp} {Q : VK}
theorem rats_all {as : List Addr} {ps : List Rat} {k : Nat} (hk : 0 < k) (hk2 : k ≤ 1900) (hp : Paired (fun a p => SqT K H a (rat p) ∧ Sz k p) as ps) :
    DpAll K H (as.map V.ref) (ps.map ratD) ∧ PyData.showableAll (ps.map ratD) = true ∧ PyData.hasDictAll (ps.map ratD) = false ∧ PyData.depthAll (ps.map ratD) ≤ 1 ∧ ((PyData.shownAll (ps.map ratD)).map (·.length)).sum ≤ (2 * k + 9) * ps.length ∧ (PyData.shownAll (ps.map ratD)).length = ps.length := by
  induction hp with
  | nil => exact ⟨.nil, rfl, rfl, Nat.zero_le _, Nat.zero_le _, rfl⟩
  | @cons a p as ps h _ ih =>
    obtain ⟨h1, z⟩ := h
    obtain ⟨i1, i2, i3, i4, i5, i6⟩ := ih
    have l1 : decide (p.num.natAbs.log2 < 1920) = true := decide_eq_true (Nat.lt_of_lt_of_le (log_lt hk z.1) (by omega))
    have l2 : decide (((p.den : Nat) : Int).natAbs.log2 < 1920) = true := decide_eq_true (Nat.lt_of_lt_of_le (log_lt hk z.den) (by omega))
    have sl := shown2_le hk z.1 z.den
    refine ⟨.cons (.tup h1 (.cons (.int _) (.cons (.int _) .nil))) i1, ?_, ?_, ?_, ?_, ?_⟩
    · show PyData.showableAll (ratD p :: ps.map ratD) = true
      unfold PyData.showableAll
      rw [i2]
      unfold ratD
      simp only [PyData.showable, PyData.showableAll, l1, l2, Bool.and_true]
    · show PyData.hasDictAll (ratD p :: ps.map ratD) = false
      unfold PyData.hasDictAll
      rw [i3]
      rfl
    · show PyData.depthAll (ratD p :: ps.map ratD) ≤ 1
      unfold PyData.depthAll
      have e : (ratD p).depth = 1 := rfl
      omega
    · simp only [List.map_cons, PyData.shownAll, List.sum_cons, List.length_cons, Nat.mul_add]
      have e : (ratD p).shown.length ≤ 2 * k + 9 := sl
      omega
    · simp only [List.map_cons, PyData.shownAll, List.length_cons, i6]
theorem i_reprRats {as : List Addr} {ps : List Rat} {t : Addr} {k : Nat} (hk : 0 < k) (hk2 : k ≤ 1900) (ht : SqT K H t (as.map V.ref)) (hp : Paired (fun a p => SqT K H a (rat p) ∧ Sz k p) as ps) (hl : ps.length ≤ 3) (h : Q (.str (PyData.tuple (ps.map ratD)).shown) H) : rReprD K [.ref t] H Q := by
  obtain ⟨i1, i2, i3, i4, i5, i6⟩ := rats_all hk hk2 hp
  refine ⟨t, .tuple (ps.map ratD), rfl, .tup ht i1, by simpa [PyData.showable] using i2, by simpa [PyData.hasDict] using i3, by simp only [PyData.depth]; omega, ?_, h⟩
  have tl := tupleText_len_le (PyData.shownAll (ps.map ratD))
  have m : (2 * k + 9) * ps.length ≤ (2 * 1900 + 9) * 3 := Nat.mul_le_mul (by omega) hl
  refine Nat.le_trans (?_ : _ ≤ 20000) (by decide +kernel)
  show (tupleText (PyData.shownAll (ps.map ratD))).length ≤ 20000
  omega
end
theorem i_eqS {H : Hp} {Q : VK} {x y : Str} (e : x = y) (h : Q (.bl true) H) : rEq (.str x) (.str y) H Q := ⟨rfl, by rw [e, decide_eq_true rfl]; exact h⟩
/-- what is read beside a load, told twice -/
def spIsRead (K : PySem.W.Frag) (C : Addr) : Sp := fun vs H Q _ => ∃ (s a b g : Addr) (v r q : Rat), vs = [.ref s, .ref a, .ref b, .ref g] ∧ SrcAt K C H s v r ∧ SqT K H a (rat v) ∧ SqT K H b (rat r) ∧ SqT K H g (rat q) ∧ Sz 40 v ∧ Sz 40 r ∧ Sz 40 q ∧ 0 ≤ q ∧ ∀ H', Same H H' → Q (.bl true) H'
/-! ### lambdas over the tables -/
def LamT.none : LamT := ⟨⟨[], [], .none, [], [], .none, []⟩, .Constant .none 0 ⟨0, 0, 0, 0⟩, ⟨.function, [], false, false, []⟩⟩
def lamE : Expr → LamT
  | .Lambda ps b sc _ => ⟨ps, b, sc⟩
  | _ => .none
/-- the lambda at the head of the tuple that a statement puts into a list -/
def lamS : Stmt → LamT
  | .Assign _ (.List (.Tuple (e :: _) _ _ :: _) _) _ => lamE e
  | .Expr (.Call _ (.Tuple (e :: _) _ _ :: _) _ _) _ => lamE e
  | .Assign _ (.Call _ (e :: _) _ _) _ => lamE e
  | .Assign _ (.Subscript (.Call _ (e :: _) _ _) _ _) _ => lamE e
  | _ => .none
section
variable {T : List (Addr × Str)} {K : PySem.W.Frag} {H H' : Hp} {p a C s : Addr} {xs : List V}
theorem tabs_but (h : Tabs T H) (hp : H p = some (.lst xs)) (B : But p H H') : Tabs T H' := fun q hq => by
  obtain ⟨rows, h1, h2, h3⟩ := h q hq
  refine ⟨rows, B _ _ (ne_of h1 hp (fun z => by cases z)) h1, h2, fun pos cv hc => ?_⟩
  obtain ⟨c, e1, e2⟩ := h3 pos cv hc
  exact ⟨c, e1, B _ _ (ne_of e2 hp (fun z => by unfold CodeO at z; cases z)) e2⟩
theorem tabs_same (h : Tabs T H) (S : Same H H') : Tabs T H' := h.ext fun b o e => S b o e
theorem extN_same (S : Same H H') : ExtN H H' := .of fun b o e => S b o e
theorem seqT_ext (h : SqT K H a xs) (E : ExtN H H') : SqT K H' a xs := by
  rcases h with (h | ⟨o, h⟩) | h
  · exact .inl (.inl (E _ _ h (fun r z => by cases z)))
  · exact .inl (.inr ⟨o, E _ _ h (fun r z => by cases z)⟩)
  · exact .inr h
theorem SrcAt.ext {v r : Rat} (h : SrcAt K C H s v r) (E : ExtN H H') : SrcAt K C H' s v r := by
  obtain ⟨dx, a, b, h1, h2, h3, h4⟩ := h
  exact ⟨dx, a, b, E _ _ h1 (fun r z => by cases z), seqT_ext h2 E, seqT_ext h3 E, h4⟩
theorem Pot.ext {n : Int} (h : Pot H p n) (E : ExtN H H') : Pot H' p n := by
  obtain ⟨a, b, c, hp, h⟩ := h
  exact ⟨a, b, c, E _ _ hp (fun r z => by cases z), h⟩
theorem Kd.ext {v : V} {n : String} (h : Kd H v n) (E : ExtN H H') : Kd H' v n := by
  cases h with
  | non => exact .non
  | bl b => exact .bl b
  | int i => exact .int i
  | str x => exact .str x
  | lst e => exact .lst (E _ _ e (fun r z => by cases z))
  | tup e => exact .tup (E _ _ e (fun r z => by cases z))
  | dic e => exact .dic (E _ _ e (fun r z => by cases z))
theorem Odd.ext {v : V} (h : Odd H v) (E : ExtN H H') : Odd H' v := by
  cases h with
  | kd k n => exact .kd (k.ext E) n
  | len e n => exact .len (E _ _ e (fun r z => by cases z)) n
  | fst e k n => exact .fst (E _ _ e (fun r z => by cases z)) (k.ext E) n
  | snd e k n => exact .snd (E _ _ e (fun r z => by cases z)) (k.ext E) n
  | num e n => exact .num (E _ _ e (fun r z => by cases z)) n
theorem Dv.ext {F : Addr → Prop} : ∀ {n : Nat} {v : V} {d : PyData}, Dv F H n v d → ExtN H H' → Dv F H' n v d
  | 0, _, _, h, _ => h
  | n + 1, v, d, h, E => by
    rcases h with h | ⟨a, e, f, h⟩
    · exact .inl h
    refine .inr ⟨a, e, f, ?_⟩
    rcases h with ⟨xs, ds, e1, e2, p, l⟩ | ⟨xs, ds, e1, e2, p, l⟩ | ⟨e1, e2⟩ | ⟨k, v', d', e1, e2, p, l⟩
    · exact .inl ⟨xs, ds, e1, E _ _ e2 (fun r z => by cases z), p.imp fun _ _ h => Dv.ext h E, l⟩
    · exact .inr (.inl ⟨xs, ds, e1, E _ _ e2 (fun r z => by cases z), p.imp fun _ _ h => Dv.ext h E, l⟩)
    · exact .inr (.inr (.inl ⟨e1, E _ _ e2 (fun r z => by cases z)⟩))
    · exact .inr (.inr (.inr ⟨k, v', d', e1, E _ _ e2 (fun r z => by cases z), Dv.ext p E, l⟩))
end
/-- all but p and the tables -/
def ButT (p : Addr) (H H' : Hp) : Prop := ∀ b o, b ≠ p → (∀ r, o ≠ .tbl r) → H b = some o → H' b = some o
theorem But.butT {p : Addr} {H H' : Hp} (B : But p H H') : ButT p H H' := fun b o n _ e => B b o n e
theorem ButT.refl (p : Addr) (H : Hp) : ButT p H H := fun _ _ _ _ e => e
theorem ButT.trans {p : Addr} {H H1 H2 : Hp} (a : ButT p H H1) (b : ButT p H1 H2) : ButT p H H2 := fun c o n t e => b c o n t (a c o n t e)
theorem butT_ext {p : Addr} {H H' : Hp} (E : ExtN H H') : ButT p H H' := fun b o _ t e => E b o e t
def qLam : Str := "_law_are_refused.<locals>." ++ "<lambda>"
def tabs (K : PySem.W.Frag) : List (Addr × Str) := [((He.cT K ("_law_are_refused", .none)).2, qLam)]
theorem tabs_u {K : PySem.W.Frag} {P : Addr} : ∀ p ∈ tabs K, p.1 = P → p.2 = qLam := fun p hp _ => by
  rw [List.mem_singleton.mp hp]
def spRefused (K : PySem.W.Frag) : Sp := fun vs H Q _ => ∃ (p a : Addr) (n : Int) (v : Rat), vs = [.ref p, .ref a] ∧ Pot H p n ∧ n < 800000 ∧ SqT K H a (rat v) ∧ 0 ≤ v ∧ Tabs (tabs K) H ∧ ∀ H', ButT p H H' → Tabs (tabs K) H' → Pot H' p (n + 2) → Q (.bl true) H'
section
variable {P : Program} {w : World} {K : PySem.W.Frag} {mg : Str → Option Value} {base : Heap} {x : Str} {st : Stmt} {fd : FuncData} {N ps : List Str} {k : Nat} {sp : Sp}
/-- a module's def that makes lambdas: its code object is known -/
theorem fun_okGL (F : Fun K x x st (He.ga K x) fd) (S : FnScope N ps (defScope st)) (len : ∀ vs H Q E, sp vs H Q E → vs.length = ps.length)
    (hb : ∀ (A : Around) (outer : List Env) (s : Shared) (H : Hp) (vs : List V) (Q : VK) (E : XK), A.guards = some [] → Room k (A.deeper (envOfC x (defScope st) s.heap.objs.size (He.ga K x) (.ref (He.codeOf K (x, .none))))) → sp vs H Q E →
      ∃ t, PSs (cxOf CX0 P w K mg base N x (defScope st) (He.ga K x) (.ref (He.codeOf K (x, .none))) A outer s H E).nox (defBody st) t ∧ t { nx := fun _ H' => Q .non H', rt := Q } (L2.start N vs) H) : FnG P w K mg base CX0 (k + 1) (He.ga K x) fd ps sp := by
  obtain ⟨oc, od, kV, doc, pm, an, cdv, ct, osl, rfl, hl, hc⟩ := F.ex
  obtain ⟨c, rfl⟩ := He.codeIn_ref hc
  have ec : He.codeOf K (x, .none) = c := He.codeOf_eq (p := (x, .none)) hl rfl
  refine fn_ofG hl hc S len fun A outer s H vs Q E hg hr h => ?_
  rw [← ec] at hr ⊢
  obtain ⟨t, h1, h2⟩ := hb A outer s H vs Q E hg hr h
  exact ⟨t, h1.nox, h2⟩
end
section
variable {T : List (Addr × Str)} {env : Env} {ps : Arguments} {body : Expr} {sc : Scope} {σ : L2.St} {H : Hp} {Q : VK} {ι : Type} {l : ι → LamT} {t : ι → XK → TE} {TT : Addr → (XK → Hp → VK → Prop) → Hp → VK → Prop} {te : TE} {K : PySem.W.Frag} {C M : Addr}
theorem i_lam (hT : Tabs T H) (k : ∀ f H1, ExtN H H1 → Tabs T H1 → H f = none → LamAt env ps body sc H1 f → Q (.ref f) H1) : tLamV T env ps body sc σ H Q := ⟨hT, k⟩
theorem i_give (h : te σ H fun v H1 => ∃ (i : ι) (f : Addr), v = .ref f ∧ TT f (fun E H' Q' => LamAt env (l i).ps (l i).body (l i).sc H' f ∧ t i E σ H' Q') H1 Q) : tGive env l t TT te σ H Q := h
theorem sub_M (h : mroB K C M = true) : PySem.W.subIn K (.ref C) (.ref M) = some true := by
  show PySem.W.mroIn K C (.ref M) = some true
  rw [mro_in h, List.contains_cons, List.contains_cons, ref_beq, ref_beq, decide_eq_true rfl, Bool.true_or, Bool.or_true]
theorem kit_same : PySem.W.kitOne K (.ref C) (.ref C) = some true := by
  unfold PySem.W.kitOne
  rw [if_pos (beq_self_eq_true _)]
theorem half_eq : rat (1 / 2 : Rat) = [.int 1, .int 2] := by decide +kernel
end
/-- a drawn ratio -/
def RatV (H : Hp) (x : V) : Prop := ∃ a q, x = .ref a ∧ H a = some (.tup (rat q)) ∧ 0 ≤ q ∧ Sz 30 q
theorem RatV.butL {H H' : Hp} {x : V} {p : Addr} {ys : List V} (h : RatV H x) (hp : H p = some (.lst ys)) (B : But p H H') : RatV H' x := by
  obtain ⟨a, q, e, h1, h2⟩ := h
  exact ⟨a, q, e, B _ _ (ne_of h1 hp (fun z => by cases z)) h1, h2⟩
def spRatioT : Sp := fun vs H Q _ => ∃ (p : Addr) (n : Int), vs = [.ref p] ∧ Pot H p n ∧ n < 900000 ∧
  ∀ (a : Addr) (H' : Hp) (q : Rat), But p H H' → Pot H' p (n + 5) → H a = none → H' a = some (.tup (rat q)) → 0 ≤ q → Sz 30 q → Q (.ref a) H'
def spOneRight (K : PySem.W.Frag) : Sp := fun vs H Q _ => ∃ (p : Addr) (n : Int), vs = [.ref p] ∧ Pot H p n ∧ n < 700000 ∧ Tabs (tabs K) H ∧ ∀ H', ButT p H H' → Tabs (tabs K) H' → Pot H' p (n + 40) → Q (.bl true) H'
section
variable {K : PySem.W.Frag} {H : Hp} {Q : VK}
theorem i_neDR {a b : Addr} {p q : Rat} (ha : SqT K H a (rat p)) (hb : SqT K H b (rat q)) (h : Q (.bl (!decide (p = q))) H) : rNeD K (.ref a) (.ref b) H Q := by
  refine ⟨.tuple [.int p.num, .int p.den], .tuple [.int q.num, .int q.den], .tup ha (.cons (.int _) (.cons (.int _) .nil)), .tup hb (.cons (.int _) (.cons (.int _) .nil)), rfl, rfl, ?_⟩
  have e : PyData.eqv (.tuple [.int p.num, .int p.den]) (.tuple [.int q.num, .int q.den]) = decide (p = q) := by
    rw [← rat_inj]
    simp [PyData.eqv, PyData.eqvAll]
    rfl
  rw [e]
  exact h
theorem i_neB {x y : Bool} (e : x = y) (h : Q (.bl false) H) : rNe (.bl x) (.bl y) H Q := ⟨rfl, by rw [e, decide_eq_true rfl]; exact h⟩
end
theorem seqL_ext {K : PySem.W.Frag} {H H' : Hp} {a : Addr} {xs : List V} (h : SqL K H a xs) (E : ExtN H H') : SqL K H' a xs := by
  rcases h with (h | ⟨o, h⟩) | h
  · exact .inl (.inl (E _ _ h (fun r z => by cases z)))
  · exact .inl (.inr ⟨o, E _ _ h (fun r z => by cases z)⟩)
  · exact .inr h
def spLawT (K : PySem.W.Frag) : Sp := fun vs H Q _ => ∃ (a : Addr) (ns : List Int), vs = [.ref a] ∧ SqL K H a (ns.map V.int) ∧ ns.length ≤ 63 ∧ Tabs (tabs K) H ∧ ∀ H', Q (.bl true) H'
theorem extN_fresh {H H' : Hp} {A : Addr} (E : ExtN H H') (h : H' A = none) : ∀ c o, H c = some o → (∀ r, o ≠ .tbl r) → c ≠ A := fun c o z nt q => by
  rw [q] at z
  have y := E _ _ z nt
  rw [h] at y
  cases y

end My

/-! own layer, 30: an own instance times what is of a built-in kind, both ways; what is raised is told -/
namespace My
open PySem PySem.Spec PyProof.Rows L2
/-- a kind that fills no number's place for * -/
inductive NoNum : String → Prop
  | non : NoNum "NoneType"
  | str : NoNum "str"
  | tup : NoNum "tuple"
  | lst : NoNum "list"
  | dic : NoNum "dict"
theorem NoNum.fills {n : String} (h : NoNum n) : fillsNumberSlot (.type n) "mul" = pure false := by
  cases h with
  | non =>
    have a : typeLookup (.type "NoneType") (PySem.dunder "mul") = pure none := by rw [typeLookup_type, builtinLookup_eq_fast]; kernel_rfl
    have b : typeLookup (.type "NoneType") (dunderR "mul") = pure none := by rw [typeLookup_type, builtinLookup_eq_fast]; kernel_rfl
    unfold fillsNumberSlot
    simp [a, b]
  | dic =>
    have a : typeLookup (.type "dict") (PySem.dunder "mul") = pure none := by rw [typeLookup_type, builtinLookup_eq_fast]; kernel_rfl
    have b : typeLookup (.type "dict") (dunderR "mul") = pure none := by rw [typeLookup_type, builtinLookup_eq_fast]; kernel_rfl
    unfold fillsNumberSlot
    simp [a, b]
  | str =>
    have a : typeLookup (.type "str") (PySem.dunder "mul") = pure (some (.builtin "str.__mul__")) := by rw [typeLookup_type, builtinLookup_eq_fast]; kernel_rfl
    have b : typeLookup (.type "str") (dunderR "mul") = pure (some (.builtin "str.__rmul__")) := by rw [typeLookup_type, builtinLookup_eq_fast]; kernel_rfl
    have c : isSeqSlot (some (.builtin "str.__mul__")) = true := by decide +kernel
    have d : isSeqSlot (some (.builtin "str.__rmul__")) = true := by decide +kernel
    unfold fillsNumberSlot
    simp [a, b, c, d]
  | tup =>
    have a : typeLookup (.type "tuple") (PySem.dunder "mul") = pure (some (.builtin "tuple.__mul__")) := by rw [typeLookup_type, builtinLookup_eq_fast]; kernel_rfl
    have b : typeLookup (.type "tuple") (dunderR "mul") = pure (some (.builtin "tuple.__rmul__")) := by rw [typeLookup_type, builtinLookup_eq_fast]; kernel_rfl
    have c : isSeqSlot (some (.builtin "tuple.__mul__")) = true := by decide +kernel
    have d : isSeqSlot (some (.builtin "tuple.__rmul__")) = true := by decide +kernel
    unfold fillsNumberSlot
    simp [a, b, c, d]
  | lst =>
    have a : typeLookup (.type "list") (PySem.dunder "mul") = pure (some (.builtin "list.__mul__")) := by rw [typeLookup_type, builtinLookup_eq_fast]; kernel_rfl
    have b : typeLookup (.type "list") (dunderR "mul") = pure (some (.builtin "list.__rmul__")) := by rw [typeLookup_type, builtinLookup_eq_fast]; kernel_rfl
    have c : isSeqSlot (some (.builtin "list.__mul__")) = true := by decide +kernel
    have d : isSeqSlot (some (.builtin "list.__rmul__")) = true := by decide +kernel
    unfold fillsNumberSlot
    simp [a, b, c, d]
/-- what is asked of a class that is multiplied with a number's kind -/
structure MulN (K : PySem.W.Frag) (C : Addr) (n : String) : Prop where
  fo : ∃ x, PySem.W.findIn K (.type n) "__mul__" = some x
  ro : ∃ x, PySem.W.findIn K (.type n) "__rmul__" = some x
  s1 : PySem.W.subIn K (.type n) (.ref C) = some false
  s2 : PySem.W.subIn K (.ref C) (.type n) = some false
def rMulK (C : Addr) (sp : Sp) (E : XK) : R2 := fun x y H Q => ∃ (a dx : Addr) (fs : List (Str × V)) (n : String), x = .ref a ∧ H a = some (.ins C dx fs) ∧ Kd H y n ∧ sp [x, y] H Q E
def rMulKR (C : Addr) (sp : Sp) (E : XK) : R2 := fun x y H Q => ∃ (a dx : Addr) (fs : List (Str × V)) (n : String), y = .ref a ∧ H a = some (.ins C dx fs) ∧ Kd H x n ∧ sp [y, x] H Q E
/-- both kinds of numbers -/
structure MulB (K : PySem.W.Frag) (C : Addr) : Prop where
  m : ∃ g, PySem.W.findIn K (.ref C) "__mul__" = some (some (.ref g))
  r : ∃ g, PySem.W.findIn K (.ref C) "__rmul__" = some (some (.ref g))
  i : MulN K C "int"
  b : MulN K C "bool"
theorem kd_num {H : Hp} {v : V} {n : String} (h : Kd H v n) : n = "int" ∨ n = "bool" ∨ NoNum n := by
  cases h with
  | non => exact .inr (.inr .non)
  | bl _ => exact .inr (.inl rfl)
  | int _ => exact .inl rfl
  | str _ => exact .inr (.inr .str)
  | lst _ => exact .inr (.inr .lst)
  | tup _ => exact .inr (.inr .tup)
  | dic _ => exact .inr (.inr .dic)
theorem kd_int {H : Hp} {v : V} {n : String} (h : Kd H v n) (e : n = "int") : ∃ i, v = .int i := by
  cases h <;> first | exact ⟨_, rfl⟩ | exact absurd e (by decide)
theorem kd_bl {H : Hp} {v : V} {n : String} (h : Kd H v n) (e : n = "bool") : ∃ b, v = .bl b := by
  cases h <;> first | exact ⟨_, rfl⟩ | exact absurd e (by decide)
section
variable {X : Cx} {CX : CXT} {k : Nat} {m qual : Str} {st : Stmt} {sp : Sp} {C : Addr} {E : XK}
theorem op_mulK (g : GOp X.K C "__mul__" qual st) (F : FnAt X.prog X.w X.K X.mg X.base CX k (He.ma X.K C "__mul__") ["self", "other"] sp) (hr : Room k X.A) (hc : PySem.W.selfFirst X.K C = true) (y : MulB X.K C) (hx : Passes CX X E) : OpR X (binaryOp .Mult) (rMulK C sp E) := by
  rintro pins s σ H x z v u Q I rx rz ⟨a, dx, fs, n, rfl, ha, hk, hsp⟩
  cases rx
  obtain ⟨mA, J, _⟩ := ins_get I.hok ha
  obtain ⟨od, J, _⟩ := J.look
  obtain ⟨mm, hF⟩ := I.fr
  have runs : wpAny (model X.prog X.w) X.A (call (.ref (He.ma X.K C "__mul__")) [.ref a, u]) (PySem.W.CmpBack (EP X pins σ Q)) X.xe s :=
    thn (run_fn (vs := [.ref a, z]) F hr g.b .nil hx I (.cons rfl (.cons rz .nil)) hsp) fun r s' q => back_of q
  obtain ⟨g1, y1⟩ := y.r
  obtain ⟨PP, kit, hp, _⟩ := kit_of I rz (hk.tyx (K := X.K))
  have tyU := kit.ty (model X.prog X.w) _ I.kIn hp
  rcases kd_num hk with rfl | rfl | nn
  · obtain ⟨x1, y2⟩ := y.i.fo
    obtain ⟨x2, y3⟩ := y.i.ro
    obtain ⟨i, rfl⟩ := kd_int hk rfl
    obtain ⟨tk, rfl⟩ := rz
    exact PySem.W.ksp_binT (T := "int") hF I.ok.mod.kin J rfl hc g.at_ g.fn y1 (.inr ⟨g1, rfl⟩) y2 y3 y.i.s1 runs
  · obtain ⟨x1, y2⟩ := y.b.fo
    obtain ⟨x2, y3⟩ := y.b.ro
    obtain ⟨bb, rfl⟩ := kd_bl hk rfl
    cases rz
    exact PySem.W.ksp_binT (T := "bool") hF I.ok.mod.kin J rfl hc g.at_ g.fn y1 (.inr ⟨g1, rfl⟩) y2 y3 y.b.s1 runs
  · have hK := I.kIn
    obtain ⟨cd, rest, hcl, hmro⟩ := PySem.W.ksp_first hc
    unfold binaryOp
    refine wpAny_holding (wpAny_bind ?_)
    unfold binaryOp1
    refine lk J.type (lk tyU ?_)
    refine lk (PySem.W.fills_K hK hcl hmro g.at_) ?_
    have e : (Value.ref C == Value.type n) = false := rfl
    simp only [e]
    refine lkp nn.fills ?_
    rw [if_neg (show ¬ ((true && false) = true) from by decide)]
    rw [if_neg (show ¬ (false = true) from Bool.false_ne_true)]
    refine lkp (r := false) rfl ?_
    rw [if_neg (show ¬ (false = true) from Bool.false_ne_true)]
    rw [if_pos (show True from trivial)]
    refine wpAny_bind (thn (PySem.W.ksp_try hK J g.at_ g.fn runs) ?_)
    rintro r s' ⟨w, rfl, q⟩
    exact (PySem.W.Looks.now (a := some w)).here (PySem.W.Looks.now.here q)
theorem op_mulKR (g : GOp X.K C "__rmul__" qual st) (F : FnAt X.prog X.w X.K X.mg X.base CX k (He.ma X.K C "__rmul__") ["self", "other"] sp) (hr : Room k X.A) (hc : PySem.W.selfFirst X.K C = true) (y : MulB X.K C) (hx : Passes CX X E) : OpR X (binaryOp .Mult) (rMulKR C sp E) := by
  rintro pins s σ H x z v u Q I rx rz ⟨a, dx, fs, n, rfl, ha, hk, hsp⟩
  cases rz
  obtain ⟨mA, J, _⟩ := ins_get I.hok ha
  obtain ⟨od, J, _⟩ := J.look
  have hK := I.kIn
  have runs : wpAny (model X.prog X.w) X.A (call (.ref (He.ma X.K C "__rmul__")) [.ref a, v]) (PySem.W.CmpBack (EP X pins σ Q)) X.xe s :=
    thn (run_fn (vs := [.ref a, x]) F hr g.b .nil hx I (.cons rfl (.cons rx .nil)) hsp) fun r s' q => back_of q
  obtain ⟨g1, y1⟩ := y.m
  obtain ⟨cd, rest, hcl, hmro⟩ := PySem.W.ksp_first hc
  obtain ⟨PP, kit, hp, _⟩ := kit_of I rx (hk.tyx (K := X.K))
  have tyV := kit.ty (model X.prog X.w) _ I.kIn hp
  have own := PySem.W.ksp_try hK J g.at_ g.fn runs
  have e : (Value.type n == Value.ref C) = false := rfl
  unfold binaryOp
  refine wpAny_holding (wpAny_bind ?_)
  unfold binaryOp1
  refine lk tyV (lk J.type ?_)
  rcases kd_num hk with rfl | rfl | nn
  · obtain ⟨i, rfl⟩ := kd_int hk rfl
    obtain ⟨tk, rfl⟩ := rx
    refine lkp PyProof.Rows.fills_int_mul ?_
    simp only [e]
    refine lk (PySem.W.fills_K hK hcl hmro y1) ?_
    rw [if_pos (show (true && true) = true from rfl)]
    refine lk (PySem.W.looks_subIn hK y.i.s2) ?_
    rw [if_neg (show ¬ (false = true) from Bool.false_ne_true), if_pos (show (true && true && !false) = true from rfl)]
    refine lkp (r := false) rfl ?_
    rw [if_neg (show ¬ (false = true) from Bool.false_ne_true), if_pos (show True from trivial)]
    refine wpAny_bind ?_
    unfold tryMethod
    refine wpAny_bind (wpAny_callSpecial?_slot (T := "int") rfl PyProof.Rows.slot_int_mul ?_)
    refine wpAny_call_entry (b := Builtin.«int.__mul__») PyProof.Rows.slot_int_mul rfl PyProof.Rows.entry_int_mul ?_
    · unfold Builtin.«int.__mul__» Builtin.Int.intBinary
      refine lkp (r := (Value.int i tk, [Value.ref a])) rfl (lkp (r := i) rfl ?_)
      have hl : PySem.W.Looks (model X.prog X.w) s.heap (asInt? (Value.ref a)) none := .andThen (.ld J.at_) .now
      refine lk hl ((PySem.W.Looks.tag .now).here ⟨_, rfl, (PySem.W.Looks.now (a := (none : Option Value))).here ?_⟩)
      show wpAny _ _ (if false = true then _ else _) _ _ _
      rw [if_neg (show ¬ (false = true) from Bool.false_ne_true), if_pos (show (true && !false) = true from rfl)]
      refine wpAny_bind (thn own ?_)
      rintro r s' ⟨w, rfl, q⟩
      exact (PySem.W.Looks.tag .now).here (PySem.W.Looks.now.here q)
  · obtain ⟨bb, rfl⟩ := kd_bl hk rfl
    cases rx
    refine lkp PySem.F.fills_bool_mul ?_
    simp only [e]
    refine lk (PySem.W.fills_K hK hcl hmro y1) ?_
    rw [if_pos (show (true && true) = true from rfl)]
    refine lk (PySem.W.looks_subIn hK y.b.s2) ?_
    rw [if_neg (show ¬ (false = true) from Bool.false_ne_true), if_pos (show (true && true && !false) = true from rfl)]
    refine lkp (r := false) rfl ?_
    rw [if_neg (show ¬ (false = true) from Bool.false_ne_true), if_pos (show True from trivial)]
    refine wpAny_bind ?_
    unfold tryMethod
    refine wpAny_bind (wpAny_callSpecial?_slot (T := "bool") rfl PySem.F.slot_bool_mul ?_)
    refine wpAny_call_entry (b := Builtin.«int.__mul__») PySem.F.slot_bool_mul rfl PyProof.Rows.entry_int_mul ?_
    · unfold Builtin.«int.__mul__» Builtin.Int.intBinary
      refine lkp (r := (Value.bool bb, [Value.ref a])) rfl (lkp (r := if bb then 1 else 0) rfl ?_)
      have hl : PySem.W.Looks (model X.prog X.w) s.heap (asInt? (Value.ref a)) none := .andThen (.ld J.at_) .now
      refine lk hl ((PySem.W.Looks.tag .now).here ⟨_, rfl, (PySem.W.Looks.now (a := (none : Option Value))).here ?_⟩)
      show wpAny _ _ (if false = true then _ else _) _ _ _
      rw [if_neg (show ¬ (false = true) from Bool.false_ne_true), if_pos (show (true && !false) = true from rfl)]
      refine wpAny_bind (thn own ?_)
      rintro r s' ⟨w, rfl, q⟩
      exact (PySem.W.Looks.tag .now).here (PySem.W.Looks.now.here q)
  · refine lkp nn.fills ?_
    simp only [e]
    refine lk (PySem.W.fills_K hK hcl hmro y1) ?_
    rw [if_neg (show ¬ ((false && true) = true) from by decide), if_neg (show ¬ (false = true) from Bool.false_ne_true)]
    refine lkp (r := false) rfl ?_
    rw [if_neg (show ¬ (false = true) from Bool.false_ne_true), if_neg (show ¬ (false = true) from Bool.false_ne_true)]
    show wpAny _ _ (if false = true then _ else _) _ _ _
    rw [if_neg (show ¬ (false = true) from Bool.false_ne_true), if_pos (show (true && !false) = true from rfl)]
    refine wpAny_bind (thn own ?_)
    rintro r s' ⟨w, rfl, q⟩
    exact (PySem.W.Looks.tag .now).here (PySem.W.Looks.now.here q)
/-- x op y of two instances of one class; what is raised is told -/
def rOwnE (C : Addr) (sp : Sp) (E : XK) : R2 := fun x y H Q => ∃ a b dx dy fs gs, x = .ref a ∧ y = .ref b ∧ H a = some (.ins C dx fs) ∧ H b = some (.ins C dy gs) ∧ sp [x, y] H Q E
theorem op_ownE {op : Operator} (g : GOp X.K C m qual st) (hm : PySem.dunder op.info.2 = m) (F : FnAt X.prog X.w X.K X.mg X.base CX k (He.ma X.K C m) ["self", "other"] sp) (hr : Room k X.A) (hc : PySem.W.selfFirst X.K C = true) (hx : Passes CX X E) : OpR X (binaryOp op) (rOwnE C sp E) := by
  rintro pins s σ H x y v u Q I rx ry ⟨a, b, dx, dy, fs, gs, rfl, rfl, ha, hb, hsp⟩
  cases rx
  cases ry
  obtain ⟨mA, J, _⟩ := ins_get I.hok ha
  obtain ⟨mB, J', _⟩ := ins_get I.hok hb
  obtain ⟨od, J, _⟩ := J.look
  obtain ⟨od', J', _⟩ := J'.look
  obtain ⟨mm, hF⟩ := I.fr
  subst hm
  exact PySem.W.binop_K hF I.ok.mod.kin J J'.type hc g.at_ g.fn (thn (run_fn (vs := [.ref a, .ref b]) F hr g.b .nil hx I (.cons rfl (.cons rfl .nil)) hsp) fun r s' q => back_of q)
end
/-- what raises nothing stands where something may be raised -/
theorem _root_.L2.FnOk.lift {P : Program} {w : World} {K : PySem.W.Frag} {mg : Str → Option Value} {base : Heap} {CX : CXT} {k : Nat} {f : Addr} {fd : FuncData} {ps : List Str} {sp : Sp} (F : FnOk P w K mg base CX0 k f fd ps sp) : FnOk P w K mg base CX k f fd ps sp :=
  ⟨F.len, fun A outer s H args us vs Q E hr e0 hb r h => codeAny_mono (F.run A outer s H args us vs Q E hr e0 hb r h) fun r s' q => by
    cases r with
    | error e => exact False.elim q
    | ok fl => cases fl <;> exact q⟩
/-! ### what is promised -/
def spIsIntG (K : PySem.W.Frag) : Sp := fun vs H Q _ => ∃ (v : V) (t : Value) (b1 b2 : Bool), vs = [v] ∧ TyX K H v t ∧ PySem.W.kitOne K t (.type "int") = some b1 ∧ PySem.W.kitOne K t (.type "bool") = some b2 ∧ Q (.bl (b1 && !b2)) H
/-- a value that is no integer from 0 on -/
def NotMany (K : PySem.W.Frag) (H : Hp) (v : V) : Prop := (∃ i : Int, v = .int i ∧ i < 0) ∨ ∃ (t : Value) (b1 b2 : Bool), TyX K H v t ∧ PySem.W.kitOne K t (.type "int") = some b1 ∧ PySem.W.kitOne K t (.type "bool") = some b2 ∧ (b1 && !b2) = false
def spManyX (K : PySem.W.Frag) (R : Addr) : Sp := fun vs H _ E => ∃ (s : Addr) (v : V), vs = [.ref s, v] ∧ NotMany K H v ∧ Rz R H v E
def spAndX (K : PySem.W.Frag) (C R : Addr) : Sp := fun vs H _ E => ∃ (s t : Addr) (v r w u : Rat) (j : Nat), vs = [.ref s, .ref t] ∧ SrcAt K C H s v r ∧ SrcAt K C H t w u ∧ Sz j r ∧ Sz j u ∧ j ≤ 400 ∧ r + u = 0 ∧ Rz R H (.ref t) E
theorem kd_notMany {K : PySem.W.Frag} {H : Hp} {v : V} {n : String} (h : Kd H v n) (hn : n ≠ "int") : NotMany K H v := by
  refine .inr ?_
  cases h with
  | int i => exact absurd rfl hn
  | non => exact ⟨_, false, false, Kd.tyx .non, kit_ty (by decide +kernel), kit_ty (by decide +kernel), rfl⟩
  | bl b => exact ⟨_, true, true, Kd.tyx (.bl b), kit_ty (by decide +kernel), kit_ty (by decide +kernel), rfl⟩
  | str x => exact ⟨_, false, false, Kd.tyx (.str x), kit_ty (by decide +kernel), kit_ty (by decide +kernel), rfl⟩
  | lst e => exact ⟨_, false, false, Kd.tyx (.lst e), kit_ty (by decide +kernel), kit_ty (by decide +kernel), rfl⟩
  | tup e => exact ⟨_, false, false, Kd.tyx (.tup e), kit_ty (by decide +kernel), kit_ty (by decide +kernel), rfl⟩
  | dic e => exact ⟨_, false, false, Kd.tyx (.dic e), kit_ty (by decide +kernel), kit_ty (by decide +kernel), rfl⟩
end My

/-! own layer, 31: what the defs of the law of sources put together promise -/
namespace My
open PySem PySem.Spec PyProof.Rows L2 LamX
theorem ne_of_b {a b : Addr} (h : (!decide (a = b)) = true) : a ≠ b := by simpa using h
def mulNB (K : PySem.W.Frag) (C : Addr) (n : String) : Bool := (PySem.W.findIn K (.type n) "__mul__").isSome && ((PySem.W.findIn K (.type n) "__rmul__").isSome && (decide (PySem.W.subIn K (.type n) (.ref C) = some false) && decide (PySem.W.subIn K (.ref C) (.type n) = some false)))
theorem mulNB_ok {K : PySem.W.Frag} {C : Addr} {n : String} (h : mulNB K C n = true) : MulN K C n := by
  obtain ⟨h1, h⟩ := He.ba h
  obtain ⟨h2, h⟩ := He.ba h
  obtain ⟨h3, h4⟩ := He.ba h
  exact ⟨Option.isSome_iff_exists.mp h1, Option.isSome_iff_exists.mp h2, of_decide_eq_true h3, of_decide_eq_true h4⟩
def mulBB (K : PySem.W.Frag) (x : Str) : Bool := refB (PySem.W.findIn K (.ref (He.ga K x)) "__mul__") && (refB (PySem.W.findIn K (.ref (He.ga K x)) "__rmul__") && (mulNB K (He.ga K x) "int" && mulNB K (He.ga K x) "bool"))
theorem mulBB_ok {K : PySem.W.Frag} {x : Str} (h : mulBB K x = true) : MulB K (He.ga K x) := by
  obtain ⟨h1, h⟩ := He.ba h
  obtain ⟨h2, h⟩ := He.ba h
  obtain ⟨h3, h4⟩ := He.ba h
  exact ⟨refB_ok h1, refB_ok h2, mulNB_ok h3, mulNB_ok h4⟩
/-! ### two tables of lambdas -/
def q1 : Str := "_law_is_side_by_side.<locals>." ++ "<lambda>"
def q2 : Str := "_law_are_refused.<locals>." ++ "<lambda>"
def tabs2 (K : PySem.W.Frag) : List (Addr × Str) := [((He.cT K ("_law_is_side_by_side", .none)).2, q1), ((He.cT K ("_law_are_refused", .none)).2, q2)]
section
variable {K : PySem.W.Frag}
theorem tabs2_u0 (h : (He.cT K ("_law_is_side_by_side", none)).2 ≠ (He.cT K ("_law_are_refused", none)).2) : ∀ p ∈ tabs2 K, p.1 = (He.cT K ("_law_is_side_by_side", none)).2 → p.2 = q1 := fun p hp e => by
  rcases List.mem_cons.mp hp with rfl | hp
  · rfl
  · rw [List.mem_singleton.mp hp] at e
    exact absurd e.symm h
theorem tabs2_u1 (h : (He.cT K ("_law_is_side_by_side", none)).2 ≠ (He.cT K ("_law_are_refused", none)).2) : ∀ p ∈ tabs2 K, p.1 = (He.cT K ("_law_are_refused", none)).2 → p.2 = q2 := fun p hp e => by
  rcases List.mem_cons.mp hp with rfl | hp
  · exact absurd e h
  · rw [List.mem_singleton.mp hp]
end
def spLawT2 (K : PySem.W.Frag) : Sp := fun vs H Q _ => ∃ (a : Addr) (ns : List Int), vs = [.ref a] ∧ SqL K H a (ns.map V.int) ∧ ns.length ≤ 63 ∧ Tabs (tabs2 K) H ∧ ∀ H', Q (.bl true) H'
/-! ### what is promised -/
def spIsSo (K : PySem.W.Frag) (C : Addr) : Sp := fun vs H Q _ => ∃ (s t a b : Addr) (v r : Rat) (j : Nat), vs = [.ref s, .ref t] ∧ SrcAt K C H s v r ∧ SqT K H t [.ref a, .ref b] ∧ SqT K H a (rat v) ∧ SqT K H b (rat r) ∧ Sz j v ∧ Sz j r ∧ 0 < j ∧ j ≤ 1900 ∧ ∀ H', Same H H' → Q (.bl true) H'
/-- a source beside its pair of ratios -/
def SrcP (K : PySem.W.Frag) (C : Addr) (H : Hp) (s f : Addr) (v r : Rat) : Prop := SrcAt K C H s v r ∧ ∃ a b, SqT K H f [.ref a, .ref b] ∧ SqT K H a (rat v) ∧ SqT K H b (rat r)
theorem SrcP.same {K : PySem.W.Frag} {C : Addr} {H H' : Hp} {s f : Addr} {v r : Rat} (h : SrcP K C H s f v r) (S : Same H H') : SrcP K C H' s f v r := by
  obtain ⟨h1, a, b, h2, h3, h4⟩ := h
  exact ⟨h1.same S, a, b, S.seqT h2, S.seqT h3, S.seqT h4⟩
theorem SrcP.ext {K : PySem.W.Frag} {C : Addr} {H H' : Hp} {s f : Addr} {v r : Rat} (h : SrcP K C H s f v r) (S : ExtN H H') : SrcP K C H' s f v r := by
  obtain ⟨h1, a, b, h2, h3, h4⟩ := h
  exact ⟨h1.ext S, a, b, seqT_ext h2 S, seqT_ext h3 S, seqT_ext h4 S⟩
def spSide (K : PySem.W.Frag) (C : Addr) : Sp := fun vs H Q _ => ∃ (s t f g : Addr) (v r w u : Rat), vs = [.ref s, .ref t, .ref f, .ref g] ∧ SrcP K C H s f v r ∧ SrcP K C H t g w u ∧ Sz 30 v ∧ Sz 30 r ∧ Sz 30 w ∧ Sz 30 u ∧ Tabs (tabs2 K) H ∧
  ∀ H', ExtN H H' → Tabs (tabs2 K) H' → Q (.bl true) H'
/-- one & other: what comes of it, or Short -/
def spAndB (K : PySem.W.Frag) (C R : Addr) : Sp := fun vs H Q E => spSrcAnd K C vs H Q E ∨ spAndX K C R vs H Q E
/-- a value of a built-in kind that is no integer from 0 on -/
def Nk (H : Hp) (v : V) : Prop := (∃ i : Int, v = .int i ∧ i < 0) ∨ ∃ n, Kd H v n ∧ n ≠ "int"
theorem Nk.ext {H H' : Hp} {v : V} (h : Nk H v) (E : ExtN H H') : Nk H' v := h.imp id fun ⟨n, k, e⟩ => ⟨n, k.ext E, e⟩
theorem Nk.kd {H : Hp} {v : V} (h : Nk H v) : ∃ n, Kd H v n := by
  rcases h with ⟨i, rfl, _⟩ | ⟨n, k, _⟩
  · exact ⟨_, .int i⟩
  · exact ⟨n, k⟩
theorem Nk.not {K : PySem.W.Frag} {H : Hp} {v : V} (h : Nk H v) : NotMany K H v := by
  rcases h with ⟨i, rfl, hi⟩ | ⟨n, k, e⟩
  · exact .inl ⟨i, rfl, hi⟩
  · exact kd_notMany k e
def Vals13 (t1 l2 l3 d4 t5 t6 : Addr) : List V := [.non, .bl true, .bl false, .int (-1), .int (-7), .str "2", .str "", .ref t1, .ref l2, .ref l3, .ref d4, .ref t5, .ref t6]
theorem vals13_dv {F : Addr → Prop} {H : Hp} {t1 l2 l3 d4 t5 t6 : Addr} {v : V} (hv : v ∈ Vals13 t1 l2 l3 d4 t5 t6) (F1 : F t1) (F2 : F l2) (F3 : F l3) (F4 : F d4) (F5 : F t5) (F6 : F t6) (e1 : H t1 = some (.tup [.int 2])) (e2 : H l2 = some (.lst [])) (e3 : H l3 = some (.lst [.int 3])) (e4 : H d4 = some (.dK []))
    (e5 : H t5 = some (.tup [.int 1, .int 1])) (e6 : H t6 = some (.tup [])) : Nk H v ∧ ∃ d, Dv F H 2 v d := by
  unfold Vals13 at hv
  simp only [List.mem_cons, List.not_mem_nil, or_false] at hv
  have li : ∀ i : Int, i.natAbs < 2 ^ 400 → Dv F H 1 (.int i) (.int i) := fun i h => .inl (.inr (.inr (.inl ⟨i, rfl, rfl, h⟩)))
  rcases hv with rfl | rfl | rfl | rfl | rfl | rfl | rfl | rfl | rfl | rfl | rfl | rfl | rfl
  · exact ⟨.inr ⟨_, .non, by decide⟩, .none, .inl (.inl ⟨rfl, rfl⟩)⟩
  · exact ⟨.inr ⟨_, .bl _, by decide⟩, _, .inl (.inr (.inl ⟨_, rfl, rfl⟩))⟩
  · exact ⟨.inr ⟨_, .bl _, by decide⟩, _, .inl (.inr (.inl ⟨_, rfl, rfl⟩))⟩
  · exact ⟨.inl ⟨_, rfl, by decide⟩, _, .inl (.inr (.inr (.inl ⟨_, rfl, rfl, by decide +kernel⟩)))⟩
  · exact ⟨.inl ⟨_, rfl, by decide⟩, _, .inl (.inr (.inr (.inl ⟨_, rfl, rfl, by decide +kernel⟩)))⟩
  · exact ⟨.inr ⟨_, .str _, by decide⟩, _, .inl (.inr (.inr (.inr ⟨_, rfl, rfl, by decide +kernel⟩)))⟩
  · exact ⟨.inr ⟨_, .str _, by decide⟩, _, .inl (.inr (.inr (.inr ⟨_, rfl, rfl, by decide +kernel⟩)))⟩
  · exact ⟨.inr ⟨_, .tup e1, by decide⟩, _, .inr ⟨_, rfl, F1, .inr (.inl ⟨_, _, rfl, e1, .cons (li 2 (by decide +kernel)) .nil, by decide⟩)⟩⟩
  · exact ⟨.inr ⟨_, .lst e2, by decide⟩, .list [], .inr ⟨_, rfl, F2, .inl ⟨_, _, rfl, e2, .nil, by decide⟩⟩⟩
  · exact ⟨.inr ⟨_, .lst e3, by decide⟩, _, .inr ⟨_, rfl, F3, .inl ⟨_, _, rfl, e3, .cons (li 3 (by decide +kernel)) .nil, by decide⟩⟩⟩
  · exact ⟨.inr ⟨_, .dic e4, by decide⟩, .dict [], .inr ⟨_, rfl, F4, .inr (.inr (.inl ⟨rfl, e4⟩))⟩⟩
  · exact ⟨.inr ⟨_, .tup e5, by decide⟩, _, .inr ⟨_, rfl, F5, .inr (.inl ⟨_, _, rfl, e5, .cons (li 1 (by decide +kernel)) (.cons (li 1 (by decide +kernel)) .nil), by decide⟩)⟩⟩
  · exact ⟨.inr ⟨_, .tup e6, by decide⟩, .tuple [], .inr ⟨_, rfl, F6, .inr (.inl ⟨_, _, rfl, e6, .nil, by decide⟩)⟩⟩
def spRefused2 (K : PySem.W.Frag) (C : Addr) : Sp := fun vs H Q _ => ∃ (p s t : Addr) (n : Int) (v r w u : Rat), vs = [.ref p, .ref s, .ref t] ∧ Pot H p n ∧ n < 800000 ∧ SrcAt K C H s v r ∧ SrcAt K C H t w u ∧ Tabs (tabs2 K) H ∧ ∀ H', ButT p H H' → Tabs (tabs2 K) H' → Pot H' p (n + 1) → Q (.bl true) H'
/-! ### a round -/
/-- a pair of drawn ratios -/
def PairV (H : Hp) (x : V) : Prop := ∃ f a b v r, x = .ref f ∧ H f = some (.tup [.ref a, .ref b]) ∧ H a = some (.tup (rat v)) ∧ H b = some (.tup (rat r)) ∧ 0 ≤ v ∧ 0 ≤ r ∧ Sz 30 v ∧ Sz 30 r
theorem PairV.butL {H H' : Hp} {x : V} {p : Addr} {ys : List V} (h : PairV H x) (hp : H p = some (.lst ys)) (B : But p H H') : PairV H' x := by
  obtain ⟨f, a, b, v, r, e, h1, h2, h3, h4⟩ := h
  exact ⟨f, a, b, v, r, e, B _ _ (ne_of h1 hp (fun z => by cases z)) h1, B _ _ (ne_of h2 hp (fun z => by cases z)) h2, B _ _ (ne_of h3 hp (fun z => by cases z)) h3, h4⟩
theorem PairV.same {H H' : Hp} {x : V} (h : PairV H x) (S : Same H H') : PairV H' x := by
  obtain ⟨f, a, b, v, r, e, h1, h2, h3, h4⟩ := h
  exact ⟨f, a, b, v, r, e, S _ _ h1, S _ _ h2, S _ _ h3, h4⟩
theorem i_joinH {c : Bool} {ta tb : TE} {σ : L2.St} {H : Hp} {Q : VK} (R : V → Hp → Prop) (h1 : c = true → ∀ Q' : VK, (∀ v H', R v H' → Q' v H') → ta σ H Q') (h2 : c = false → ∀ Q' : VK, (∀ v H', R v H' → Q' v H') → tb σ H Q') (h : ∀ v H', R v H' → Q v H') : if c = true then ta σ H Q else tb σ H Q := by
  cases c with
  | true => exact h1 rfl Q h
  | false => exact h2 rfl Q h
theorem seqT_butT {K : PySem.W.Frag} {H H' : Hp} {a p : Addr} {xs ys : List V} (h : SqT K H a xs) (hp : H p = some (.lst ys)) (B : ButT p H H') : SqT K H' a xs := by
  rcases h with (h | ⟨o, h⟩) | h
  · exact .inl (.inl (B _ _ (ne_of h hp (fun z => by cases z)) (fun r z => by cases z) h))
  · exact .inl (.inr ⟨o, B _ _ (ne_of h hp (fun z => by cases z)) (fun r z => by cases z) h⟩)
  · exact .inr h
theorem SrcP.butT {K : PySem.W.Frag} {C : Addr} {H H' : Hp} {s f p : Addr} {v r : Rat} {ys : List V} (h : SrcP K C H s f v r) (hp : H p = some (.lst ys)) (B : ButT p H H') : SrcP K C H' s f v r := by
  obtain ⟨⟨dx, c, d, k1, k2, k3, k4⟩, a, b, h2, h3, h4⟩ := h
  exact ⟨⟨dx, c, d, B _ _ (ne_of k1 hp (fun z => by cases z)) (fun r z => by cases z) k1, seqT_butT k2 hp B, seqT_butT k3 hp B, k4⟩, a, b, seqT_butT h2 hp B, seqT_butT h3 hp B, seqT_butT h4 hp B⟩
def spPairRight (K : PySem.W.Frag) : Sp := fun vs H Q _ => ∃ (p : Addr) (n : Int), vs = [.ref p] ∧ Pot H p n ∧ n < 700000 ∧ Tabs (tabs2 K) H ∧ ∀ H', ButT p H H' → Tabs (tabs2 K) H' → Pot H' p (n + 40) → Q (.bl true) H'
end My

/-! own layer, 26: the end of a law that makes lambdas and writes values out -/
namespace My
open PySem PySem.Spec PyProof.Rows L2
/-- an empty table of code objects -/
abbrev tabO : Obj := { cls := .none, data := .fields #[] }
section
variable {P : Program} {w : World} {K : PySem.W.Frag} {mg mb : Str → Option Value} {k : Nat} {fa a : Addr} {cs : List (Addr × Addr)} {fd : FuncData} {x : Str} {sp : Sp} {s₁ : Shared} {vs : List Value} {ns : List Int}
theorem callT_core (KX : K.In s₁.heap) (hns : s₁.heap.Ns mainGlobals mg) (hb : s₁.heap.Ns builtinsNs mb) (hbb : ∀ x : Str, x ≠ "__name__" → mb x = bootBuiltins x) (hlim : s₁.heap.NoLimit) (hg : s₁.gens = #[]) (ht : ∀ p ∈ cs, s₁.heap.get? p.2 = some tabO) (nt : ∀ p ∈ cs, K.lookup p.2 = none) (hc : ∀ p ∈ cs, PySem.W.CodeHd s₁.heap p.1 p.2)
    (hbm : ∃ (bm : Addr) (ob : Obj), mg "__builtins__" = some (.ref bm) ∧ bm ≠ builtinsNs ∧ s₁.heap.get? bm = some ob ∧ ob.cls = .type "module" ∧ ob.dict = some builtinsNs ∧ ob.data = .plain) (ha : s₁.heap.get? a = some (scriptO vs)) (hr : Room k callerA)
    (F : ∀ base : Heap, K.In base → base.Ns mainGlobals mg → (∀ p ∈ cs, LamX.TabB base mg p.1 p.2) → FnG P w K mg base CX0 k fa fd [x] sp) (hbind : ∀ (s : Shared) (u : Value), BindsTo s fd ⟨[u], []⟩ [(x, u)]) {H : Hp} (hO : ∀ b, H b = none ∨ (∃ p ∈ cs, b = p.2) ∨ ∃ o xs, H b = some (.frz o xs)) (hT : ∀ p ∈ cs, H p.2 = some (.tbl #[]))
    (hq : sp [.ref a] H (fun v _ => v = .bl true) E0) (hok : HOk P w H s₁.heap) (hA : ∀ b, H b ≠ none → b = a ∨ ∃ p ∈ cs, b = p.2) (hK : H a ≠ none → K.lookup a = none) :
    codeAny (model P w) callerA (Code.call (.ref fa) ⟨[.ref a], []⟩) (fun r s' => r = Except.ok (Flow.ret (.bool true)) ∧ OldK s₁.heap s'.heap ∧ s'.os = s₁.os ∧ AllBare s'.gens) s₁ := by
  have at_ : ∀ {b : Addr} {o : Obj}, s₁.heap.get? b = some o → H b = none → (hidT s₁.heap H).get? b = some o := fun e n => hidT_get e n
  have other : ∀ {b : Addr} {o : Obj}, s₁.heap.get? b = some o → (∀ v n, o.data ≠ .seq v n) → o.data ≠ .fields #[] → H b = none := by
    intro b o e h1 h2
    cases q : H b with
    | none => rfl
    | some u =>
      exfalso
      rcases hA b (by rw [q]; intro z; cases z) with rfl | ⟨p, hp, rfl⟩
      · rw [ha] at e
        cases e
        exact h1 _ _ rfl
      · rw [ht p hp] at e
        cases e
        exact h2 rfl
  have dicts : ∀ {b : Addr} {m : Str → Option Value}, s₁.heap.Ns b m → (hidT s₁.heap H).Ns b m := by
    rintro b m ⟨o, es, ep, e, d, r⟩
    exact ⟨o, es, ep, at_ e (other e (fun v n z => by rw [d] at z; cases z) (fun z => by rw [d] at z; cases z)), d, r⟩
  have written : K.In (hidT s₁.heap H) := by
    intro b o e
    refine at_ (KX b o e) ?_
    cases q : H b with
    | none => rfl
    | some u =>
      exfalso
      have hn : H b ≠ none := by rw [q]; intro z; cases z
      rcases hA b hn with z | ⟨p, hp, z⟩
      · rw [z] at hn e
        rw [hK hn] at e
        cases e
      · rw [z, nt p hp] at e
        cases e
  have mod : L2.Mod K mg (hidT s₁.heap H) := ⟨written, dicts hns, ⟨mb, dicts hb, hbb⟩, by obtain ⟨mc, h1, h2⟩ := hlim; exact ⟨mc, dicts h1, h2⟩⟩
  have table : ∀ p ∈ cs, LamX.TabB (hidT s₁.heap H) mg p.1 p.2 := by
    intro p hp
    have notG : p.2 ≠ mainGlobals := fun z => by
      obtain ⟨o, es, ep, e, d, _⟩ := hns
      rw [← z, ht p hp] at e
      cases e
      cases d
    refine ⟨?_, ?_, Ne.symm notG⟩
    · obtain ⟨o, us, file, tf, flags, tg, inF, text, tt, e1, r1, r2, r3, r⟩ := hc p hp
      exact ⟨o, us, file, tf, flags, tg, inF, text, tt, at_ e1 (other e1 (fun v n z => by rw [r2] at z; cases z) (fun z => by
        rw [r2] at z
        cases z
        cases r3)), r1, r2, r3, r⟩
    · obtain ⟨bm, ob, b1, b2, b3, b4, b5, b6⟩ := hbm
      refine ⟨bm, ob, b1, b2, fun z => ?_, fun z => ?_, at_ b3 (other b3 (fun v n z => by rw [b6] at z; cases z) (fun z => by rw [b6] at z; cases z)), b4, b5, b6⟩
      · obtain ⟨o, es, ep, e, d, _⟩ := hns
        rw [← z, b3] at e
        cases e
        rw [b6] at d
        cases d
      · rw [z, ht p hp] at b3
        cases b3
        cases b6
  have e0 : Env0 P w K mg (hidT s₁.heap H) callerA [] s₁ H := ⟨rfl, mod, fun b o e => of_hidT e, Nat.le_of_eq (hidT_size _ _), trivial, (fun b z => by cases z), hok, AllBare.of_eq hg⟩
  refine codeAny_mono ((F _ written (dicts hns) table).run callerA [] s₁ H ⟨[.ref a], []⟩ [.ref a] [.ref a] (fun v _ => v = .bl true) E0 rfl hr e0 (hbind s₁ (.ref a)) (.cons rfl .nil) hq) fun r s' h => ?_
  cases r with
  | error e => exact False.elim h
  | ok fl =>
    cases fl with
    | ret u =>
      obtain ⟨v, H', os, bare, un, hok', r', q⟩ := h
      subst q
      cases r'
      have kept : ∀ b o, (¬ ∃ p ∈ cs, b = p.2) → s₁.heap.get? b = some o → s'.heap.get? b = some o := by
        intro b o n e
        cases h : H b with
        | none => exact un.keep b o e h (fun z => by cases z) (fun z => by cases z)
        | some u =>
          rcases hO b with z | z | ⟨ob, xs, z⟩
          · rw [h] at z
            cases z
          · exact absurd z n
          · have h1 := (hok b _ z).1
            have h2 := (hok' b _ (un.frzs _ _ _ z)).1
            rw [e] at h1
            cases h1
            exact h2
      have grown : ∀ p ∈ cs, ∃ more : Array Value, s'.heap.get? p.2 = some { cls := .none, data := .fields (#[] ++ more) } := fun p hp => by
        obtain ⟨more, z⟩ := un.tbls p.2 #[] (hT p hp)
        exact ⟨more, hok' p.2 _ z⟩
      refine ⟨rfl, ⟨fun b o e => ?_, fun b o e => ?_⟩, os, bare⟩
      · by_cases n : ∃ p ∈ cs, b = p.2
        · obtain ⟨p, hp, n⟩ := n
          rw [n] at e ⊢
          rw [ht p hp] at e
          cases e
          obtain ⟨more, gr⟩ := grown p hp
          exact .inr (.inl ⟨((hc p hp).tab (ht p hp)).isCodeTable, rfl, #[], more, rfl, gr⟩)
        · exact .inl (kept b o n e)
      · by_cases n : ∃ p ∈ cs, b = p.2
        · obtain ⟨p, hp, n⟩ := n
          obtain ⟨more, gr⟩ := grown p hp
          rw [n]
          exact ⟨_, gr⟩
        · exact ⟨o, kept b o n e⟩
    | _ => exact False.elim h
theorem law_callT (KX : K.In s₁.heap) (hns : s₁.heap.Ns mainGlobals mg) (hb : s₁.heap.Ns builtinsNs mb) (hbb : ∀ x : Str, x ≠ "__name__" → mb x = bootBuiltins x) (hlim : s₁.heap.NoLimit) (hg : s₁.gens = #[]) (ht : ∀ p ∈ cs, s₁.heap.get? p.2 = some tabO) (nt : ∀ p ∈ cs, K.lookup p.2 = none) (hc : ∀ p ∈ cs, PySem.W.CodeHd s₁.heap p.1 p.2)
    (hbm : ∃ (bm : Addr) (ob : Obj), mg "__builtins__" = some (.ref bm) ∧ bm ≠ builtinsNs ∧ s₁.heap.get? bm = some ob ∧ ob.cls = .type "module" ∧ ob.dict = some builtinsNs ∧ ob.data = .plain) (ha : s₁.heap.get? a = some (scriptO vs)) (hr : Room k callerA)
    (F : ∀ base : Heap, K.In base → base.Ns mainGlobals mg → (∀ p ∈ cs, LamX.TabB base mg p.1 p.2) → FnG P w K mg base CX0 k fa fd [x] sp) (hbind : ∀ (s : Shared) (u : Value), BindsTo s fd ⟨[u], []⟩ [(x, u)]) (hi : IntsAre vs ns) (hl : ns.length ≤ sizeLine)
    (hsp : ∀ H : Hp, (∀ p ∈ cs, H p.2 = some (.tbl #[])) → SqL K H a (ns.map V.int) → sp [.ref a] H (fun v _ => v = .bl true) E0) :
    codeAny (model P w) callerA (Code.call (.ref fa) ⟨[.ref a], []⟩) (fun r s' => r = Except.ok (Flow.ret (.bool true)) ∧ OldK s₁.heap s'.heap ∧ s'.os = s₁.os ∧ AllBare s'.gens) s₁ := by
  classical
  have rv := vals_ints hi
  have lenV := IntsAre.length hi
  have apart : ¬ ∃ p ∈ cs, a = p.2 := fun ⟨p, hp, z⟩ => by
    have q := ht p hp
    rw [← z, ha] at q
    cases q
  let T : Hp := fun b => if ∃ p ∈ cs, b = p.2 then some (.tbl #[]) else none
  have Ty : ∀ b, (∃ p ∈ cs, b = p.2) → T b = some (.tbl #[]) := fun b h => if_pos h
  have Tn : ∀ b, (¬ ∃ p ∈ cs, b = p.2) → T b = none := fun b h => if_neg h
  cases h : K.lookup a with
  | none =>
    have Ha := upd_same (H := T) (a := a) (o := HO.frz (scriptO vs) (.lst (ns.map V.int)))
    have Hb : ∀ b, b ≠ a → upd T a (HO.frz (scriptO vs) (.lst (ns.map V.int))) b = T b := fun b n => upd_ne n
    generalize upd T a (HO.frz (scriptO vs) (.lst (ns.map V.int))) = H at Ha Hb
    have Ht : ∀ p ∈ cs, H p.2 = some (.tbl #[]) := fun p hp => by
      rw [Hb _ (fun z => apart ⟨p, hp, z.symm⟩)]
      exact Ty _ ⟨p, hp, rfl⟩
    refine callT_core KX hns hb hbb hlim hg ht nt hc hbm ha hr F hbind (H := H) (fun b => ?_) Ht (hsp H Ht (.inl (.inr ⟨_, Ha⟩))) (fun b u z => ?_) (fun b z => ?_) fun _ => h
    · by_cases h1 : b = a
      · exact .inr (.inr ⟨_, _, by rw [h1]; exact Ha⟩)
      · by_cases h2 : ∃ p ∈ cs, b = p.2
        · exact .inr (.inl h2)
        · exact .inl (by rw [Hb b h1]; exact Tn b h2)
    · by_cases h1 : b = a
      · rw [h1, Ha] at z
        cases z
        rw [h1]
        exact ⟨ha, by rw [List.length_map]; exact hl, vs, 0, rv, ha⟩
      · rw [Hb b h1] at z
        by_cases h2 : ∃ p ∈ cs, b = p.2
        · rw [Ty b h2] at z
          cases z
          obtain ⟨p, hp, e⟩ := h2
          rw [e]
          exact ht p hp
        · rw [Tn b h2] at z
          cases z
    · by_cases h1 : b = a
      · exact .inl h1
      · by_cases h2 : ∃ p ∈ cs, b = p.2
        · exact .inr h2
        · exact absurd ((Hb b h1).trans (Tn b h2)) z
  | some o =>
    have e := KX a o h
    rw [ha] at e
    cases e
    have Ht : ∀ p ∈ cs, T p.2 = some (.tbl #[]) := fun p hp => Ty _ ⟨p, hp, rfl⟩
    refine callT_core KX hns hb hbb hlim hg ht nt hc hbm ha hr F hbind (H := T) (fun b => ?_) Ht (hsp T Ht (.inr ⟨_, vs.toArray, 0, h, rfl, rfl, rfl, ?_, rv⟩)) (fun b u z => ?_) (fun b z => ?_) fun z => absurd (Tn a apart) z
    · by_cases h2 : ∃ p ∈ cs, b = p.2
      · exact .inr (.inl h2)
      · exact .inl (Tn b h2)
    · rw [List.size_toArray, lenV]
      exact hl
    · by_cases h2 : ∃ p ∈ cs, b = p.2
      · rw [Ty b h2] at z
        cases z
        obtain ⟨p, hp, e⟩ := h2
        rw [e]
        exact ht p hp
      · rw [Tn b h2] at z
        cases z
    · by_cases h2 : ∃ p ∈ cs, b = p.2
      · exact .inr h2
      · exact absurd (Tn b h2) z
end
theorem walk_ofT {l : PySem.W.OpenLaw} {n k : Nat} {q : Program} {loose : List Str} {XP : (Str → Option Value) → Heap → Prop} {YP : World → Heap → Prop} {d : DefRec} {x : Str} (hn : l.most = some n) (hn2 : n ≤ sizeLine) (hdf : d.params.defaults = []) (hr : Room k callerA)
    (F : ∀ (w : World) (mg : Str → Option Value) (fa : Addr) (h : Heap), YP w h → h.Ns mainGlobals mg → mg d.name = some (.ref fa) → ∃ (K : PySem.W.Frag) (fd : FuncData) (sp : Sp) (cs : List (Addr × Addr)), K.In h ∧ (∀ p ∈ cs, h.get? p.2 = some tabO) ∧ (∀ p ∈ cs, K.lookup p.2 = none) ∧ (∀ p ∈ cs, PySem.W.CodeHd h p.1 p.2) ∧ (∀ (s : Shared) (u : Value), BindsTo s fd ⟨[u], []⟩ [(x, u)]) ∧
      (∀ (H : Hp) (a : Addr) (ns : List Int), ns.length ≤ n → (∀ p ∈ cs, H p.2 = some (.tbl #[])) → SqL K H a (ns.map V.int) → sp [.ref a] H (fun v _ => v = .bl true) E0) ∧ ∀ base : Heap, K.In base → base.Ns mainGlobals mg → (∀ p ∈ cs, LamX.TabB base mg p.1 p.2) → FnG l.prog w K mg base CX0 k fa fd [x] sp) :
    PySem.W.WalkO q loose XP YP l.row.toRowW d [] fun f vs => call f vs := by
  refine Att.attach_call hn hdf fun w s₀ s₁ mg mb fa o pm cd doc a vs ns G Y ho hd hcd hmg hobj hints hlen hg => ?_
  obtain ⟨K, fd, sp, cs, KX, ht, nt, hc, hb, hsp, hF⟩ := F w mg fa s₁.heap Y G.T.g hmg
  exact law_callT KX G.T.g G.T.b G.T.builtins G.T.nolimit hg ht nt hc G.T.bmain hobj hr hF hb hints (Nat.le_trans hlen hn2) fun H hT hS => hsp H a ns hlen hT hS
/-- the code objects and tables of these defs -/
def csOf (K : PySem.W.Frag) (tf : List He.Defn) : List (Addr × Addr) := tf.map (He.cT K)
theorem cs_all {K : PySem.W.Frag} {tf : List He.Defn} {Pr : Addr × Addr → Prop} (h : ∀ p ∈ tf, Pr (He.cT K p)) : ∀ p ∈ csOf K tf, Pr p := fun p hp => by
  obtain ⟨d, hd, rfl⟩ := List.mem_map.mp hp
  exact h d hd
/-! ### what the head tells: also of the tables -/
structure SayT (ex : PySem.W.Frag → Bool) (ds : List Df) (tf : List He.Defn) (h : Heap) (K : PySem.W.Frag) : Prop where
  c : obsK ex ds K = valK ds
  hd : ∀ p ∈ tf, PySem.W.codeHdIn K (He.cT K p).1 (He.cT K p).2 = true
  out : ∀ p ∈ tf, K.lookup (He.cT K p).2 = none
  empty : ∀ p ∈ tf, h.get? (He.cT K p).2 = some tabO
abbrev HT : Type := HV × Bool
def obsT (n : Nat) (ex : PySem.W.Frag → Bool) (ds : List Df) (tf : List He.Defn) (g : Addr → Option Obj) : HT := (obsK ex ds (frK n g), He.tabsB g tf (frK n g))
def hookT (n : Nat) (ex : PySem.W.Frag → Bool) (ds : List Df) (tf : List He.Defn) : PySem.W.Hook where
  α := HT
  obs s := obsT n ex ds tf s.heap.get?
  val _ := (valK ds, true)
  says _ h := ∃ K : PySem.W.Frag, K.In h ∧ SayT ex ds tf h K
  of _ s e := by
    have e1 := congrArg Prod.fst e
    have e2 : He.tabsB s.heap.get? tf (frK n s.heap.get?) = true := congrArg Prod.snd e
    have key : ∀ p ∈ tf, PySem.W.codeHdIn (frK n s.heap.get?) (He.cT (frK n s.heap.get?) p).1 (He.cT (frK n s.heap.get?) p).2 = true ∧ ∃ o, s.heap.get? (He.cT (frK n s.heap.get?) p).2 = some o ∧ He.emptyTab o = true := by
      intro p hp
      obtain ⟨h1, h2⟩ := He.ba (List.all_eq_true.mp e2 p hp)
      refine ⟨h1, ?_⟩
      split at h2
      · rename_i o q
        exact ⟨o, q, h2⟩
      · cases h2
    refine ⟨frK n s.heap.get?, He.frT_in, e1, fun p hp => (key p hp).1, fun p hp => ?_, fun p hp => ?_⟩
    · obtain ⟨_, o, q, z⟩ := key p hp
      exact He.frT_none q z
    · obtain ⟨_, o, q, z⟩ := key p hp
      rw [q, He.emptyTab_eq z]
  keeps _ _ _ := fun ⟨K, i, c⟩ k => ⟨K, fun a o e => k a o (i a o e), ⟨c.c, c.hd, c.out, fun p hp => k _ _ (c.empty p hp)⟩⟩
def obTT (n : Nat) (ex : PySem.W.Frag → Bool) (ds : List Df) (tf : List He.Defn) (s : PySem.W.SharedT) : HT := obsT n ex ds tf (HandSHeadRun.getT s)
theorem obTT_eq {n : Nat} {ex : PySem.W.Frag → Bool} {ds : List Df} {tf : List He.Defn} (s : PySem.W.SharedT) : obTT n ex ds tf s = (hookT n ex ds tf).obs s.abs := by
  unfold obTT
  rw [funext (HandSHeadRun.getT_eq s)]
  rfl
end My

local macro_rules | `(tactic| walk_at "h") => `(tactic| first
  | with_reducible refine My.i_seq ?_ | with_reducible refine My.i_asg ?_ | with_reducible refine My.i_gname ?_ | ((with_reducible refine' My.i_var ?e ?_); (case e => exact rfl)) | with_reducible refine My.i_c ?_ | with_reducible refine My.i_op ?_ | with_reducible refine My.i_un ?_
  | with_reducible refine My.i_I0 ?_ | with_reducible refine My.i_call ?_ | with_reducible refine My.i_cb ?_ | with_reducible refine My.i_cons ?_ | with_reducible refine My.i_nil ?_ | with_reducible refine My.i_ret ?_ | with_reducible refine My.i_retN ?_ | with_reducible refine My.i_drop ?_
  | with_reducible refine My.i_tup ?_ | with_reducible refine My.i_lst ?_ | with_reducible refine My.i_ife ?_ | with_reducible refine My.i_if ?_ | with_reducible refine My.i_test ?_ | with_reducible refine My.i_tB ?_ | with_reducible refine My.i_bl ?_ | with_reducible refine My.i_blv ?_
  | with_reducible refine My.i_not ?_ | with_reducible refine My.i_and ?_ | with_reducible refine My.i_or ?_ | with_reducible refine My.i_andV ?_ | with_reducible refine My.i_orV ?_ | with_reducible refine My.i_notV ?_ | with_reducible refine My.i_U ?_ | with_reducible refine My.i_next ?_
  | with_reducible refine My.i_par ?_ | with_reducible refine My.i_two ?_ | with_reducible refine My.i_int1 ?_ | with_reducible refine My.i_int1b ?_ | with_reducible refine My.i_abs ?_ | with_reducible refine My.i_max2 ?_ | with_reducible refine My.i_min2 ?_
  | ((with_reducible refine My.i_szT ?z ?_); (case z => exact Nat.le_of_ble_eq_true rfl); intro _ _ _ _ _) | ((with_reducible refine My.i_szL ?z ?_); (case z => exact Nat.le_of_ble_eq_true rfl); intro _ _ _ _ _)
  | with_reducible refine My.i_sub ?_ | with_reducible refine My.i_lstRg ?_ | with_reducible refine My.i_rg1 ?_ | with_reducible refine My.i_in ?_ | ((with_reducible refine' My.i_setL ?l ?e ?_); (case l => walk_at "look"); (case e => exact rfl); intro _ _ _) | with_reducible refine My.i_bm ?_ | with_reducible refine My.i_bm0 ?_
  | ((with_reducible refine' My.i_tyL (L2.SqL.of ?l) ?_); (case l => walk_at "look")) | ((with_reducible refine' My.i_app ?l ?e ?_); (case l => walk_at "look"); (case e => exact Nat.le_of_ble_eq_true rfl); intro _ _ _) | with_reducible refine L2.iteT ?_ | with_reducible refine L2.iteF ?_ | with_reducible refine My.ite_nt ?_ | with_reducible refine My.ite_nf ?_ | with_reducible refine My.i_gcd ?_
  | ((with_reducible refine' My.i_isiI ?e ?_); (case e => exact (by decide +kernel : L2.kitB _ _ = some _))) | with_reducible refine My.i_gcons ?_ | with_reducible refine My.i_gnil ?_
  | ((with_reducible refine' My.i_lenT ?l ?_); (case l => walk_at "lookT")) | ((with_reducible refine' My.i_lenL (L2.SqL.of ?l) ?_); (case l => walk_at "look")) | ((with_reducible refine' My.i_tupg ?l ?e ?_); (case l => walk_at "lookT"); (case e => rfl)) | with_reducible refine My.i_fld0 ?_ | with_reducible refine My.i_prop ?_ | with_reducible refine My.i_meth ?_ | with_reducible refine My.i_make ?_ | with_reducible refine My.i_sfld ?_
  | ((with_reducible refine' My.i_fv ?h ?c ?n ?_); (case h => walk_at "look"); (case c => assumption); (case n => assumption)) | ((with_reducible refine' My.i_fo ?h ?c ?n ?_); (case h => walk_at "look"); (case c => assumption); (case n => assumption))
  | ((with_reducible show My.PropQ _ _ _ _ _ _ _); (first | ((refine' My.i_pv ?h ?_); (case h => walk_at "look")) | ((refine' My.i_po ?h ?_); (case h => walk_at "look")))) | ((with_reducible refine' My.i_me ?h ?a ?b ?_); (case h => walk_at "look"); (case a => decide +kernel); (case b => decide +kernel)) | with_reducible refine My.i_lc ?_ | with_reducible refine My.i_for ?_ | with_reducible refine My.i_rng ?_ | with_reducible refine My.i_rngv (by decide) (by decide) ?_ | with_reducible refine My.i_wl ?_ | with_reducible refine My.i_wt ?_ | with_reducible refine My.i_par3 ?_ | with_reducible refine My.i_three ?_
  | ((with_reducible refine' My.i_wtv ?l ?_); (case l => walk_at "lookT")) | ((with_reducible refine' My.i_wlv (L2.SqL.of ?l) ?_); (case l => walk_at "look")) | walk_at "ix" | ((with_reducible refine' My.i_I ?c ?_); (case c => walk_at "side")))
local macro_rules | `(tactic| walk_at "side") => `(tactic| first | assumption | ((show (0 : Int) < _); omega) | (exact My.mulZ (by assumption) (by assumption) (by omega)) | (exact My.divS (by omega) (by omega)) | (exact My.mulS (by omega) (by omega) (by omega) (by omega)) | (exact My.powL (by decide +kernel)) | (exact My.pow3S (by omega) (by omega)))
local macro_rules | `(tactic| walk_at "look") => `(tactic| first | assumption | (apply (‹L2.Same _ _› : L2.Same _ _) _ _; walk_at "look") | ((refine' (‹My.But _ _ _› _ _ ?n ?l); (case n => walk_at "ne")); (case l => walk_at "look")))
local macro_rules | `(tactic| walk_at "ne") => `(tactic| first | assumption | (refine Ne.symm ?_; assumption) | exact L2.ne_of_none (by walk_at "lookS") (by assumption) | exact (L2.ne_of_none (by walk_at "lookS") (by assumption)).symm | exact L2.ne_of (by walk_at "lookS") (by walk_at "lookS") (by intro z; cases z))
local macro_rules | `(tactic| walk_at "lookS") => `(tactic| first | assumption | (apply (‹L2.Same _ _› : L2.Same _ _) _ _; walk_at "lookS"))
local macro_rules | `(tactic| walk_at "ix") => `(tactic| first
  | ((with_reducible refine' My.i_ixsL (L2.SqL.of ?l) ?e ?_); (case l => walk_at "look"); (case e => exact rfl)) | ((with_reducible refine' My.i_ixsT ?l ?e ?_); (case l => walk_at "lookT"); (case e => exact rfl)))
local macro_rules | `(tactic| walk_at "lookT") => `(tactic| first | assumption | exact L2.SqT.of (by walk_at "look") | (apply L2.Same.seqT ‹L2.Same _ _›; walk_at "lookT") | (apply My.Pot.but ‹My.Pot _ _ _› ‹My.But _ _ _›; walk_at "lookT"))
local macro_rules | `(tactic| walk_at "len") => `(tactic| (intro vs H Q E h; first | (obtain ⟨_, e, _⟩ := h; subst e; rfl) | (obtain ⟨_, _, e, _⟩ := h; subst e; rfl) | (obtain ⟨_, _, _, e, _⟩ := h; subst e; rfl) | (obtain ⟨_, _, _, _, e, _⟩ := h; subst e; rfl) | (obtain ⟨_, _, _, _, _, e, _⟩ := h; subst e; rfl) | (obtain ⟨_, _, _, _, _, _, e, _⟩ := h; subst e; rfl) | (obtain ⟨_, _, _, _, _, _, _, e, _⟩ := h; subst e; rfl) | (obtain ⟨_, _, _, _, _, _, _, _, e, _⟩ := h; subst e; rfl) | (obtain ⟨_, _, _, _, _, _, _, _, _, e, _⟩ := h; subst e; rfl) | (obtain ⟨_, _, _, _, _, _, _, _, _, _, e, _⟩ := h; subst e; rfl) | (obtain ⟨_, _, _, _, _, _, _, _, _, _, _, e, _⟩ := h; subst e; rfl) | (obtain ⟨_, _, _, _, _, _, _, _, _, _, _, _, e, _⟩ := h; subst e; rfl) | (obtain ⟨_, _, _, _, _, _, _, _, _, _, _, _, _, e, _⟩ := h; subst e; rfl)))
local macro_rules | `(tactic| walk_at "but") => `(tactic| first | exact My.But.refl _ | assumption | (refine My.But.trans ?_ ‹My.But _ _ _›; walk_at "but") | (refine My.But.trans ?_ (L2.Same.but ‹L2.Same _ _›); walk_at "but"))
local macro_rules | `(tactic| walk_at "same") => `(tactic| first | exact L2.Same.refl _ | assumption | (refine L2.Same.trans ?_ ‹L2.Same _ _›; walk_at "same"))

local macro_rules | `(tactic| walk_at "h") => `(tactic| first | with_reducible refine My.i_kept0 ?_ | with_reducible refine My.i_we ?_)

namespace Lw
open PySem PySem.Spec PyProof.Rows L2 My
def top (i : Nat) : Stmt := PySem.Challenge.pw_rangehunt_k02_sources_put_together.main.body.getD i (.Pass ⟨0, 0, 0, 0⟩)
abbrev s__wall : Stmt := top 1
abbrev s_is_integer : Stmt := top 3
abbrev s_is_ratio : Stmt := top 4
abbrev s_ratio : Stmt := top 5
abbrev s_plus : Stmt := top 6
abbrev s_times : Stmt := top 7
abbrev s_over : Stmt := top 8
abbrev s_at_least : Stmt := top 9
abbrev s_weakening : Stmt := top 17
abbrev s_repeated : Stmt := top 18
abbrev s_covers : Stmt := top 19
abbrev s__law_pot : Stmt := top 22
abbrev s__law_take : Stmt := top 23
abbrev s__law_of : Stmt := top 24
abbrev s__law_cells : Stmt := top 25
abbrev s__law_common : Stmt := top 26
abbrev s__law_pair : Stmt := top 27
abbrev s__law_plus : Stmt := top 28
abbrev s__law_times : Stmt := top 29
abbrev s__law_over : Stmt := top 30
abbrev s__law_told : Stmt := top 31
abbrev s__law_ratio : Stmt := top 32
abbrev s__law_is_so : Stmt := top 33
abbrev s__law_is_side_by_side : Stmt := top 34
abbrev s__law_are_refused : Stmt := top 35
abbrev s__law_pair_right : Stmt := top 36
abbrev s_law : Stmt := top 37
abbrev s_MeterError___init__ : Stmt := inClass (top 11) 0
abbrev s_Source___init__ : Stmt := inClass (top 20) 0
abbrev s_Source_volts : Stmt := inClass (top 20) 1
abbrev s_Source_ohms : Stmt := inClass (top 20) 2
abbrev s_Source_at : Stmt := inClass (top 20) 3
abbrev s_Source_under : Stmt := inClass (top 20) 4
abbrev s_Source___add__ : Stmt := inClass (top 20) 5
abbrev s_Source___and__ : Stmt := inClass (top 20) 6
abbrev s_Source___mul__ : Stmt := inClass (top 20) 7
abbrev s_Source___rmul__ : Stmt := inClass (top 20) 8
abbrev s_Source___ge__ : Stmt := inClass (top 20) 9
abbrev s_Source___le__ : Stmt := inClass (top 20) 10
abbrev s_Source___eq__ : Stmt := inClass (top 20) 11
def tf : List He.Defn := [("_law_is_side_by_side", none), ("_law_are_refused", none)]
def ecs0 : List Str := (["MeterError", "BadRatio", "Short", "BadMany"] : List Str)
structure Tx (K : PySem.W.Frag) (mg : Str → Option Value) : Prop where
  f__wall : GFn K mg "_wall" s__wall ["k"]
  f_is_integer : GFn K mg "is_integer" s_is_integer ["value"]
  f_is_ratio : GFn K mg "is_ratio" s_is_ratio ["value"]
  f_ratio : GFn K mg "ratio" s_ratio ["above", "below"]
  f_plus : GFn K mg "plus" s_plus ["one", "other"]
  f_times : GFn K mg "times" s_times ["one", "other"]
  f_over : GFn K mg "over" s_over ["one", "other"]
  f_at_least : GFn K mg "at_least" s_at_least ["one", "other"]
  f_weakening : GFn K mg "weakening" s_weakening ["ohms", "load"]
  f_repeated : GFn K mg "repeated" s_repeated ["source", "many"]
  f_covers : GFn K mg "covers" s_covers ["one", "other"]
  f__law_pot : GFn K mg "_law_pot" s__law_pot ["_law_script", "_law_place"]
  f__law_take : GFn K mg "_law_take" s__law_take ["_law_pot_here", "_law_upto"]
  f__law_of : GFn K mg "_law_of" s__law_of ["_law_pot_here", "_law_some"]
  f__law_cells : GFn K mg "_law_cells" s__law_cells ["_law_script", "_law_most"]
  f__law_common : GFn K mg "_law_common" s__law_common ["_law_one", "_law_other"]
  f__law_pair : GFn K mg "_law_pair" s__law_pair ["_law_above", "_law_under"]
  f__law_plus : GFn K mg "_law_plus" s__law_plus ["_law_one", "_law_other"]
  f__law_times : GFn K mg "_law_times" s__law_times ["_law_one", "_law_other"]
  f__law_over : GFn K mg "_law_over" s__law_over ["_law_one", "_law_other"]
  f__law_told : GFn K mg "_law_told" s__law_told ["_law_look"]
  f__law_ratio : GFn K mg "_law_ratio" s__law_ratio ["_law_pot_here"]
  f__law_is_so : GFn K mg "_law_is_so" s__law_is_so ["_law_told_here", "_law_due"]
  f__law_is_side_by_side : GFn K mg "_law_is_side_by_side" s__law_is_side_by_side ["_law_one", "_law_other", "_law_first", "_law_second"]
  f__law_are_refused : GFn K mg "_law_are_refused" s__law_are_refused ["_law_pot_here", "_law_one", "_law_other"]
  f__law_pair_right : GFn K mg "_law_pair_right" s__law_pair_right ["_law_pot_here"]
  f_law : GFn K mg "law" s_law ["_law_script"]
  b_ValueError : mg "ValueError" = none
  b_list : mg "list" = none
  b_isinstance : mg "isinstance" = none
  b_int : mg "int" = none
  b_range : mg "range" = none
  b_abs : mg "abs" = none
  b_bool : mg "bool" = none
  b_tuple : mg "tuple" = none
  b_len : mg "len" = none
  b_max : mg "max" = none
  b_repr : mg "repr" = none
  b_all : mg "all" = none
  b_min : mg "min" = none
  b_gcd : mg "gcd" = some (.builtin "math.gcd")
  c_Source : Cls K (He.ga K "Source")
  k_Source : GMk K mg "Source"
  s_Source : PySem.W.selfFirst K (He.ga K "Source") = true
  a_Source__volts : NoAttr K (He.ga K "Source") "_volts"
  a_Source__ohms : NoAttr K (He.ga K "Source") "_ohms"
  d_Source___init__ : GMe K (He.ga K "Source") "__init__" "Source.__init__" s_Source___init__ ["self", "volts", "ohms"]
  p_Source_volts : GPr K (He.ga K "Source") "volts" "Source.volts" s_Source_volts
  p_Source_ohms : GPr K (He.ga K "Source") "ohms" "Source.ohms" s_Source_ohms
  d_Source_at : GMe K (He.ga K "Source") "at" "Source.at" s_Source_at ["self", "load"]
  d_Source_under : GMe K (He.ga K "Source") "under" "Source.under" s_Source_under ["self", "load"]
  o_Source___add__ : GOp K (He.ga K "Source") "__add__" "Source.__add__" s_Source___add__
  o_Source___and__ : GOp K (He.ga K "Source") "__and__" "Source.__and__" s_Source___and__
  o_Source___mul__ : GOp K (He.ga K "Source") "__mul__" "Source.__mul__" s_Source___mul__
  o_Source___rmul__ : GOp K (He.ga K "Source") "__rmul__" "Source.__rmul__" s_Source___rmul__
  o_Source___ge__ : GOp K (He.ga K "Source") "__ge__" "Source.__ge__" s_Source___ge__
  o_Source___le__ : GOp K (He.ga K "Source") "__le__" "Source.__le__" s_Source___le__
  o_Source___eq__ : GOp K (He.ga K "Source") "__eq__" "Source.__eq__" s_Source___eq__
  d_MeterError___init__ : GMe K (He.ga K "MeterError") "__init__" "MeterError.__init__" s_MeterError___init__ ["self", "value"]
  m_MeterError : mg "MeterError" = some (.ref (He.ga K "MeterError"))
  m_BadRatio : mg "BadRatio" = some (.ref (He.ga K "BadRatio"))
  m_Short : mg "Short" = some (.ref (He.ga K "Short"))
  m_BadMany : mg "BadMany" = some (.ref (He.ga K "BadMany"))
  m_ONE : mg "ONE" = some (.ref (He.ga K "ONE"))
  t_ONE : ∀ H, SqT K H (He.ga K "ONE") [V.int 1, V.int 1]
  y_Source : InsC K (He.ga K "Source")
  q_Source : MulI K (He.ga K "Source")
  n_Source : neB K (He.ga K "Source") = true
  e_all : ∀ c ∈ ecs0, EOk K (He.ga K c)
  i_all : ∀ c ∈ ecs0, PySem.W.findIn K (.ref (He.ga K c)) "__init__" = some (some (.ref (He.ma K (He.ga K "MeterError") "__init__")))
  t_init : PySem.W.typeIn K (.ref (He.ma K (He.ga K "MeterError") "__init__")) = some (.type "function")
  w_all : ∀ c ∈ ecs0.tail, mroB K (He.ga K c) (He.ga K "MeterError") = true
  w_0 : mroB0 K (He.ga K "MeterError") = true
  dist : (ecs0.map (He.ga K)).Nodup
  y_sys : SysD K
  x_tabs : (He.cT K ("_law_is_side_by_side", none)).2 ≠ (He.cT K ("_law_are_refused", none)).2
  b_mul : MulB K (He.ga K "Source")
  i_src : PySem.W.kitOne K (.ref (He.ga K "Source")) (.type "int") = some false
  j_src : PySem.W.kitOne K (.ref (He.ga K "Source")) (.type "bool") = some false
section
variable {P : Program} {w : World} {K : PySem.W.Frag} {mg : Str → Option Value} {base : Heap}
theorem sc_is_integer : FnScope ["value"] ["value"] (defScope s_is_integer) := ⟨rfl, rfl, rfl, by decide +kernel, rfl, by decide +kernel, by decide +kernel⟩
theorem ok_is_integer (T : Tx K mg) : FnAt P w K mg base CX0 1 (He.ga K "is_integer") ["value"] spIsInt := by
  refine T.f_is_integer.f.ok sc_is_integer ?_ (fun cdv A outer s H vs Q E hr h => ?_)
  · walk_at "len"
  · obtain ⟨i, rfl, k⟩ := h
    refine ⟨_, (pss_one (ps_ret (pe_and (pe_callB call_isi rfl T.b_isinstance (by decide +kernel) (pa_cons (pv 0) (pa_cons (pe_bltn (v := .ty "int") rfl T.b_int (by decide +kernel) rfl) pa_nil))) (pe_one (pe_not (pe_callB call_isi rfl T.b_isinstance (by decide +kernel) (pa_cons (pv 0) (pa_cons (pe_bltn (v := .ty "bool") rfl T.b_bool (by decide +kernel) rfl) pa_nil)))))))), ?_⟩
    refine My.i_go (σ' := [some _]) rfl ?_
    repeat walk_at "h"
    refine i_isiI (b := true) (by decide +kernel) ?_
    repeat walk_at "h"
    refine i_isiI (b := false) (by decide +kernel) ?_
    repeat walk_at "h"
    exact k
theorem ok_is_integer_k (T : Tx K mg) : FnAt P w K mg base CX0 1 (He.ga K "is_integer") ["value"] spIsIntK := by
  refine T.f_is_integer.f.ok sc_is_integer ?_ (fun cdv A outer s H vs Q E hr h => ?_)
  · walk_at "len"
  · obtain ⟨v, n, rfl, hk, k⟩ := h
    refine ⟨_, (pss_one (ps_ret (pe_and (pe_callB call_isi rfl T.b_isinstance (by decide +kernel) (pa_cons (pv 0) (pa_cons (pe_bltn (v := .ty "int") rfl T.b_int (by decide +kernel) rfl) pa_nil))) (pe_one (pe_not (pe_callB call_isi rfl T.b_isinstance (by decide +kernel) (pa_cons (pv 0) (pa_cons (pe_bltn (v := .ty "bool") rfl T.b_bool (by decide +kernel) rfl) pa_nil)))))))), ?_⟩
    refine My.i_go (σ' := [some _]) rfl ?_
    repeat walk_at "h"
    have hk2 := hk
    cases hk2 with
    | bl b =>
      refine i_isKd hk (b := true) (by decide +kernel) ?_
      repeat walk_at "h"
      refine i_isKd hk (b := true) (by decide +kernel) ?_
      repeat walk_at "h"
      exact k
    | int i =>
      refine i_isKd hk (b := true) (by decide +kernel) ?_
      repeat walk_at "h"
      refine i_isKd hk (b := false) (by decide +kernel) ?_
      repeat walk_at "h"
      exact k
    | _ =>
      refine i_isKd hk (b := false) (by decide +kernel) ?_
      repeat walk_at "h"
      exact k
theorem ok_is_integer_g (T : Tx K mg) : FnAt P w K mg base CX0 1 (He.ga K "is_integer") ["value"] (spIsIntG K) := by
  refine T.f_is_integer.f.ok sc_is_integer ?_ (fun cdv A outer s H vs Q E hr h => ?_)
  · walk_at "len"
  · obtain ⟨v, t, b1, b2, rfl, ty, e1, e2, k⟩ := h
    refine ⟨_, (pss_one (ps_ret (pe_and (pe_callB call_isi rfl T.b_isinstance (by decide +kernel) (pa_cons (pv 0) (pa_cons (pe_bltn (v := .ty "int") rfl T.b_int (by decide +kernel) rfl) pa_nil))) (pe_one (pe_not (pe_callB call_isi rfl T.b_isinstance (by decide +kernel) (pa_cons (pv 0) (pa_cons (pe_bltn (v := .ty "bool") rfl T.b_bool (by decide +kernel) rfl) pa_nil)))))))), ?_⟩
    refine My.i_go (σ' := [some _]) rfl ?_
    repeat walk_at "h"
    refine ⟨v, .ty "int", t, _, b1, rfl, .ty "int", ty, e1, ?_⟩
    repeat walk_at "h"
    cases b1 with
    | false =>
      repeat walk_at "h"
      exact k
    | true =>
      repeat walk_at "h"
      refine ⟨v, .ty "bool", t, _, b2, rfl, .ty "bool", ty, e2, ?_⟩
      repeat walk_at "h"
      exact k
theorem sc_ratio : FnScope ["above", "below", "common"] ["above", "below"] (defScope s_ratio) := ⟨rfl, rfl, rfl, by decide +kernel, rfl, by decide +kernel, by decide +kernel⟩
theorem ok_ratio (T : Tx K mg) : FnAt P w K mg base CX0 1 (He.ga K "ratio") ["above", "below"] spPair := by
  refine T.f_ratio.f.ok sc_ratio ?_ (fun cdv A outer s H vs Q E hr h => ?_)
  · walk_at "len"
  · obtain ⟨a, b, rfl, hb, sa, sb, k⟩ := h
    refine ⟨_, (pss_cons (ps_set (i := 2) sc_ratio.nd rfl (.inl rfl) (pe_callBfun cr_gcd rfl T.b_gcd (pa_cons (pv 0) (pa_cons (pv 1) pa_nil))))
      (pss_one (ps_ret (pe_tup (pa_cons (pe_op op_fdivW (pv 0) (pv 2)) (pa_cons (pe_op op_fdivW (pv 1) (pv 2)) pa_nil)))))), ?_⟩
    refine My.i_go (σ' := [some _, some _, none]) rfl ?_
    obtain ⟨d1, d2⟩ := gcd_div (a := a) hb sb
    repeat walk_at "h"
    rename_i p H1 S hp e
    rw [rat_div hb] at e
    exact k p H1 S hp e
theorem sc_at_least : FnScope ["one", "other"] ["one", "other"] (defScope s_at_least) := ⟨rfl, rfl, rfl, by decide +kernel, rfl, by decide +kernel, by decide +kernel⟩
theorem ok_at_least (T : Tx K mg) : FnAt P w K mg base CX0 1 (He.ga K "at_least") ["one", "other"] (spAtLeast K) := by
  refine T.f_at_least.f.ok sc_at_least ?_ (fun cdv A outer s H vs Q E hr h => ?_)
  · walk_at "len"
  · obtain ⟨a, b, p, q, j, rfl, hp, hq, zp, zq, hj, k⟩ := h
    have z1 := zp.1; have z2 := zp.den; have z3 := zq.1; have z4 := zq.den
    refine ⟨_, (pss_one (ps_ret (pe_cmpR op_ge (pe_op op_mulW (pe_ix ix_seq (pv 0) pe_int (fun _ _ => rfl)) (pe_ix ix_seq (pv 1) pe_int (fun _ _ => rfl))) (pe_op op_mulW (pe_ix ix_seq (pv 1) pe_int (fun _ _ => rfl)) (pe_ix ix_seq (pv 0) pe_int (fun _ _ => rfl))) (nomark _)))), ?_⟩
    refine My.i_go (σ' := [some _, some _]) rfl ?_
    repeat walk_at "h"
    rw [decide_eq_decide.mpr (le_nd p q).symm]
    exact k
theorem sc__law_pot : FnScope ["_law_script", "_law_place", "_law_cell", "_law_own", "_law_small"] ["_law_script", "_law_place"] (defScope s__law_pot) := ⟨rfl, rfl, rfl, by decide +kernel, rfl, by decide +kernel, by decide +kernel⟩
theorem ok__law_pot (T : Tx K mg) : FnAt P w K mg base CX0 1 (He.ga K "_law_pot") ["_law_script", "_law_place"] (spPot K) := by
  refine T.f__law_pot.f.ok sc__law_pot ?_ (fun cdv A outer s H vs Q E hr h => ?_)
  · walk_at "len"
  · obtain ⟨a, ns, i, rfl, hx, hi, hi2, k⟩ := h
    refine ⟨_, (pss_cons (ps_set (i := 2) sc__law_pot.nd rfl (.inl rfl) (pe_ifExp (pt_cmpR op_lt (pv 1) (pe_callB cr_len rfl T.b_len (by decide +kernel) (pa_cons (pv 0) pa_nil)) (nomark _)) (pe_ix ix_seq (pv 0) (pv 1) (fun _ _ => rfl)) (pe_op op_add (pe_op op_mulW pe_int (pv 1)) pe_int)))
      (pss_cons (ps_set (i := 3) sc__law_pot.nd rfl (.inl rfl) (pe_op op_mulW (pe_op op_mod (pe_callTy cr_int1 rfl T.b_int (by decide +kernel) (pa_cons (pe_callB cr_abs rfl T.b_abs (by decide +kernel) (pa_cons (pv 2) pa_nil)) pa_nil)) (pe_op op_powW (pe_op op_powW pe_int pe_int) pe_int)) (pe_callTy cr_int1 rfl T.b_int (by decide +kernel) (pa_cons (pe_cmpR op_ge (pe_callB cr_abs rfl T.b_abs (by decide +kernel) (pa_cons (pv 2) pa_nil)) (pe_op op_powW pe_int pe_int) (nomark _)) pa_nil))))
      (pss_cons (ps_set (i := 4) sc__law_pot.nd rfl (.inl rfl) (pe_op op_mod (pe_callTy cr_int1 rfl T.b_int (by decide +kernel) (pa_cons (pv 2) pa_nil)) pe_int))
      (pss_one (ps_ret (pe_lst (pa_cons (pv 3) (pa_cons (pe_op op_mod (pe_callTy cr_int1 rfl T.b_int (by decide +kernel) (pa_cons (pe_op op_add (pe_op op_add (pe_op op_mulW (pv 4) pe_int) (pe_op op_mulW (pe_op op_mulW pe_int (pv 1)) (pv 1))) pe_int) pa_nil)) pe_int) (pa_cons pe_int pa_nil))))))))), ?_⟩
    refine My.i_go (σ' := [some _, some _, none, none, none]) rfl ?_
    repeat walk_at "h"
    refine i_lenL hx ?_
    repeat walk_at "h"
    refine i_join (fun v => ∃ z : Int, v = .int z) (fun h1 Q hQ => ?_) (fun h1 Q hQ => ?_) ?_
    · have h1 := of_decide_eq_true h1
      rw [List.length_map] at h1
      repeat walk_at "h"
      obtain ⟨j, rfl⟩ : ∃ j : Nat, i = (j : Int) := ⟨i.toNat, by omega⟩
      have hj : j < ns.length := by omega
      exact i_ixsL hx (atI_nat (j := j) (v := .int ns[j]) (by rw [List.getElem?_map, List.getElem?_eq_getElem hj, Option.map_some])) (hQ _ ⟨_, rfl⟩)
    · repeat walk_at "h"
      exact hQ _ ⟨_, rfl⟩
    · rintro v ⟨z, rfl⟩
      repeat walk_at "h"
      refine i_modQ (by decide +kernel) fun m hm1 hm2 => ?_
      repeat walk_at "h"
      refine i_I (mul01 (pot_lt hm1 hm2)) ?_
      repeat walk_at "h"
      rename_i q H1 S hq e1
      exact k q H1 S hq ⟨_, _, _, e1, mul01_nn hm1, Int.emod_nonneg _ (by decide), Int.lt_trans (Int.emod_lt_of_pos _ (by decide)) (by decide), Int.le_refl _, Int.le_refl _⟩
theorem sc__law_take : FnScope ["_law_pot_here", "_law_upto", "_law_digit", "_law_prime", "_law_mixed"] ["_law_pot_here", "_law_upto"] (defScope s__law_take) := ⟨rfl, rfl, rfl, by decide +kernel, rfl, by decide +kernel, by decide +kernel⟩
theorem ok__law_take (T : Tx K mg) : FnAt P w K mg base CX0 1 (He.ga K "_law_take") ["_law_pot_here", "_law_upto"] spTake := by
  refine T.f__law_take.f.ok sc__law_take ?_ (fun cdv A outer s H vs Q E hr h => ?_)
  · walk_at "len"
  · obtain ⟨p, u, n, rfl, ⟨a, b, c, hp, ha, hb, hb2, hc, hcn⟩, hn, hu, hu2, k⟩ := h
    refine ⟨_, (pss_cons (ps_if (pt_cmpR op_gt (pe_ix ix_seq (pv 0) pe_int (fun _ _ => rfl)) pe_int (nomark _)) (pss_cons (ps_set (i := 2) sc__law_take.nd rfl (.inl rfl) (pe_op op_mod (pe_callTy cr_int1 rfl T.b_int (by decide +kernel) (pa_cons (pe_ix ix_seq (pv 0) pe_int (fun _ _ => rfl)) pa_nil)) (pv 1)))
      (pss_cons (ps_asg (pe_op op_fdivW (pe_ix ix_seq (pv 0) pe_int (fun _ _ => rfl)) (pv 1)) (pg_sub (pv 0) pe_int set_list))
      (pss_one (ps_ret (pv 2))))) pss_nil)
      (pss_cons (ps_asg (pe_op op_add (pe_ix ix_seq (pv 0) pe_int (fun _ _ => rfl)) pe_int) (pg_sub (pv 0) pe_int set_list))
      (pss_cons (ps_set (i := 3) sc__law_take.nd rfl (.inl rfl) (pe_ix ix_seq (pe_lst (pa_cons pe_int (pa_cons pe_int (pa_cons pe_int (pa_cons pe_int (pa_cons pe_int pa_nil)))))) (pe_op op_mod (pe_callTy cr_int1 rfl T.b_int (by decide +kernel) (pa_cons (pe_ix ix_seq (pv 0) pe_int (fun _ _ => rfl)) pa_nil)) pe_int) (fun _ _ => rfl)))
      (pss_cons (ps_set (i := 4) sc__law_take.nd rfl (.inl rfl) (pe_op op_mod (pe_callTy cr_int1 rfl T.b_int (by decide +kernel) (pa_cons (pe_op op_powW (pe_callTy cr_int1 rfl T.b_int (by decide +kernel) (pa_cons (pe_op op_add (pe_op op_add (pe_ix ix_seq (pv 0) pe_int (fun _ _ => rfl)) (pe_op op_mulW (pe_op op_mulW pe_int (pe_ix ix_seq (pv 0) pe_int (fun _ _ => rfl))) (pe_ix ix_seq (pv 0) pe_int (fun _ _ => rfl)))) pe_int) pa_nil)) pe_int) pa_nil)) (pv 3)))
      (pss_cons (ps_set (i := 4) sc__law_take.nd rfl (.inl rfl) (pe_op op_mod (pe_callTy cr_int1 rfl T.b_int (by decide +kernel) (pa_cons (pe_op op_mulW (pv 4) (pe_op op_add (pe_op op_mod (pe_callTy cr_int1 rfl T.b_int (by decide +kernel) (pa_cons (pv 4) pa_nil)) pe_int) (pe_op op_mulW pe_int (pe_ix ix_seq (pv 0) pe_int (fun _ _ => rfl))))) pa_nil)) pe_int))
      (pss_one (ps_ret (pe_op op_mod (pe_callTy cr_int1 rfl T.b_int (by decide +kernel) (pa_cons (pe_op op_fdivW (pv 4) pe_int) pa_nil)) (pv 1))))))))), ?_⟩
    refine My.i_go (σ' := [some _, some _, none, none, none]) rfl ?_
    repeat walk_at "h"
    refine ite2 (fun h1 => ?_) (fun h1 => ?_)
    · repeat walk_at "h"
      exact k _ _ (Int.emod_nonneg _ (by omega)) (Int.emod_lt_of_pos _ hu) ⟨_, _, _, by walk_at "look", Int.ediv_nonneg ha (by omega), hb, hb2, hc, by omega⟩ (by walk_at "but")
    · repeat walk_at "h"
      obtain ⟨v, hv, hm⟩ := atI_mem (xs := [V.int 2147483647, V.int 2147483629, V.int 2147483587, V.int 2147483579, V.int 2147483563]) (i := (c + 1) % 5) (Int.emod_nonneg _ (by omega)) (by simp only [List.length]; omega)
      obtain ⟨q, rfl, hq1, hq2⟩ : ∃ q : Int, v = .int q ∧ 2147483562 < q ∧ q < 2147483648 := by
        simp only [List.mem_cons, List.not_mem_nil, or_false] at hm
        rcases hm with rfl | rfl | rfl | rfl | rfl <;> exact ⟨_, rfl, by decide, by decide⟩
      refine i_ixsL (SqL.of (by walk_at "look")) hv ?_
      repeat walk_at "h"
      refine i_I (pow3Q hb hb2 (by decide) (by decide) (by omega) (by omega) (by decide) (by decide)) ?_
      iterate 3 walk_at "h"
      refine i_modQ (by omega) fun m hm1 hm2 => ?_
      repeat walk_at "h"
      exact k _ _ (Int.emod_nonneg _ (by omega)) (Int.emod_lt_of_pos _ hu) ⟨_, _, _, by walk_at "look", ha, hb, hb2, by omega, by omega⟩ (by walk_at "but")
theorem sc__law_cells : FnScope ["_law_script", "_law_most"] ["_law_script", "_law_most"] (defScope s__law_cells) := ⟨rfl, rfl, rfl, by decide +kernel, rfl, by decide +kernel, by decide +kernel⟩
theorem ok__law_cells (T : Tx K mg) : FnAt P w K mg base CX0 1 (He.ga K "_law_cells") ["_law_script", "_law_most"] (spCells K) := by
  refine T.f__law_cells.f.ok sc__law_cells ?_ (fun cdv A outer s H vs Q E hr h => ?_)
  · walk_at "len"
  · obtain ⟨a, ns, m, rfl, hx, hl, hm, k⟩ := h
    refine ⟨_, (pss_one (ps_ret (pe_listRg rfl rfl T.b_list (prg_1 rfl T.b_range (pe_callB (cr_max2 rfl) rfl T.b_max (by decide +kernel) (pa_cons pe_int (pa_cons (pe_callB (cr_min2 rfl) rfl T.b_min (by decide +kernel) (pa_cons (pv 1) (pa_cons (pe_callB cr_len rfl T.b_len (by decide +kernel) (pa_cons (pv 0) pa_nil)) pa_nil))) pa_nil))))))), ?_⟩
    refine My.i_go (σ' := [some _, some _]) rfl ?_
    repeat walk_at "h"
    refine i_lenL hx ?_
    repeat walk_at "h"
    rw [List.length_map]
    generalize e : (if (if (ns.length : Int) < m then (ns.length : Int) else m) > 1 then (if (ns.length : Int) < m then (ns.length : Int) else m) else 1) = j
    have hj : 1 ≤ j ∧ j ≤ 100 := by split at e <;> split at e <;> omega
    obtain ⟨i, rfl⟩ : ∃ i : Nat, j = (i : Int) := ⟨j.toNat, by omega⟩
    exact i_newR (.of_le (by omega) (by omega) (by omega) (by omega)) fun q H1 S hq e1 => k q H1 i (by omega) S hq e1
theorem sc__law_common : FnScope ["_law_one", "_law_other", "_law_left", "_law_right"] ["_law_one", "_law_other"] (defScope s__law_common) := ⟨rfl, rfl, rfl, by decide +kernel, rfl, by decide +kernel, by decide +kernel⟩
theorem ok__law_common (T : Tx K mg) : FnAt P w K mg base CX0 1 (He.ga K "_law_common") ["_law_one", "_law_other"] spCommon := by
  refine T.f__law_common.f.ok sc__law_common ?_ (fun cdv A outer s H vs Q E hr h => ?_)
  · walk_at "len"
  · obtain ⟨a, b, rfl, k⟩ := h
    refine ⟨_, (pss_cons (ps_par (i := 2) (j := 3) rfl sc__law_common.nd rfl rfl (by decide) rfl rfl (pa_cons (pe_callB cr_abs rfl T.b_abs (by decide +kernel) (pa_cons (pv 0) pa_nil)) (pa_cons (pe_callB cr_abs rfl T.b_abs (by decide +kernel) (pa_cons (pv 1) pa_nil)) pa_nil)) rfl)
      (pss_cons (ps_while PassesOwn.never (pt_cmpR op_gt (pv 3) pe_int (nomark _)) (pss_one (ps_par (i := 2) (j := 3) rfl sc__law_common.nd rfl rfl (by decide) rfl rfl (pa_cons (pv 3) (pa_cons (pe_op op_mod (pe_callTy cr_int1 rfl T.b_int (by decide +kernel) (pa_cons (pv 2) pa_nil)) (pe_callTy cr_int1 rfl T.b_int (by decide +kernel) (pa_cons (pv 3) pa_nil))) pa_nil)) rfl)))
      (pss_one (ps_ret (pv 2))))), ?_⟩
    refine My.i_go (σ' := [some _, some _, none, none]) rfl ?_
    repeat walk_at "h"
    have ea : (if a < 0 then -a else a) = (a.natAbs : Int) := by split <;> omega
    have eb : (if b < 0 then -b else b) = (b.natAbs : Int) := by split <;> omega
    rw [ea, eb]
    refine while_by (fun σ H' => H' = H ∧ ∃ l r : Nat, σ = [some (.int a), some (.int b), some (.int (l : Int)), some (.int (r : Int))] ∧ Nat.gcd l r = Nat.gcd a.natAbs b.natAbs) (fun σ _ => match σ[3]? with | some (some (V.int r)) => r.toNat | _ => 0)
      ⟨rfl, a.natAbs, b.natAbs, rfl, rfl⟩ ?_ (fun σ H Q Q' hQ ⟨v, e1, i, j, e2, e3, c, e4, q⟩ => ⟨v, e1, i, j, e2, e3, c, e4, hQ _ _ q⟩)
    rintro σ H' ⟨rfl, l, r, rfl, hg⟩
    repeat walk_at "h"
    refine ite2 (fun h1 => ?_) (fun h1 => ?_)
    · have h1 := of_decide_eq_true h1
      repeat walk_at "h"
      have e : ((l : Int) % (r : Int)) = ((l % r : Nat) : Int) := by omega
      refine ⟨⟨rfl, r, l % r, by rw [e]; rfl, ?_⟩, ?_⟩
      · rw [← hg, Nat.gcd_comm l r, Nat.gcd_rec r l, Nat.gcd_comm (l % r) r]
      · show ((l : Int) % (r : Int)).toNat < ((r : Nat) : Int).toNat
        have := Nat.mod_lt l (show r > 0 by omega)
        omega
    · have h1 : ¬ (0 : Int) < (r : Int) := fun z => h1 (decide_eq_true z)
      have : r = 0 := by omega
      subst this
      rw [Nat.gcd_zero_right] at hg
      subst hg
      repeat walk_at "h"
      exact k
theorem sc_MeterError___init__ : FnScope ["self", "value"] ["self", "value"] (defScope s_MeterError___init__) := ⟨rfl, rfl, rfl, by decide +kernel, rfl, by decide +kernel, by decide +kernel⟩
theorem ok_MeterError___init__ (T : Tx K mg) : FnAt P w K mg base CX0 1 (He.ma K (He.ga K "MeterError") "__init__") ["self", "value"] (spErrInit K) := by
  refine T.d_MeterError___init__.f.ok sc_MeterError___init__ ?_ (fun cdv A outer s H vs Q E hr h => ?_)
  · walk_at "len"
  · obtain ⟨a, C, v, rfl, hx, T0, k⟩ := h
    refine ⟨_, (pss_one (ps_ost (pv 0) (pv 1))), ?_⟩
    refine My.i_go (σ' := [some _, some _]) rfl ?_
    show tOst _ _ _ _ _ _ _
    unfold tOst
    repeat walk_at "h"
    refine ⟨a, C, rfl, T0.o, T0.no, .inl ⟨hx, fun dx hd ne => ?_⟩⟩
    exact k _ dx (fun b o n z => by rw [upd_ne n, upd_ne (ne_of_none z hd)]; exact z) hd upd_same (by rw [upd_ne ne]; exact upd_same)
theorem sc_Source_volts : FnScope ["self"] ["self"] (defScope s_Source_volts) := ⟨rfl, rfl, rfl, by decide +kernel, rfl, by decide +kernel, by decide +kernel⟩
theorem ok_Source_volts (T : Tx K mg) : FnAt P w K mg base CX0 1 (gtOf K (He.ma K (He.ga K "Source") "volts")) ["self"] (spVolts (He.ga K "Source")) := by
  refine T.p_Source_volts.f.ok sc_Source_volts ?_ (fun cdv A outer s H vs Q E hr h => ?_)
  · walk_at "len"
  · obtain ⟨x, dx, a, b, rfl, hx, k⟩ := h
    have hc := T.c_Source; have n1 := T.a_Source__volts
    refine ⟨_, (pss_one (ps_ret (pe_fld (pv 0) rfl))), ?_⟩
    refine My.i_go (σ' := [some _]) rfl ?_
    repeat walk_at "h"
    exact k
theorem sc_Source_ohms : FnScope ["self"] ["self"] (defScope s_Source_ohms) := ⟨rfl, rfl, rfl, by decide +kernel, rfl, by decide +kernel, by decide +kernel⟩
theorem ok_Source_ohms (T : Tx K mg) : FnAt P w K mg base CX0 1 (gtOf K (He.ma K (He.ga K "Source") "ohms")) ["self"] (spOhms (He.ga K "Source")) := by
  refine T.p_Source_ohms.f.ok sc_Source_ohms ?_ (fun cdv A outer s H vs Q E hr h => ?_)
  · walk_at "len"
  · obtain ⟨x, dx, a, b, rfl, hx, k⟩ := h
    have hc := T.c_Source; have n2 := T.a_Source__ohms
    refine ⟨_, (pss_one (ps_ret (pe_fld (pv 0) rfl))), ?_⟩
    refine My.i_go (σ' := [some _]) rfl ?_
    repeat walk_at "h"
    exact k
theorem sc__law_told : FnScope ["_law_look", "_law_caught", "_law_back", "error"] ["_law_look"] (defScope s__law_told) := ⟨rfl, rfl, rfl, by decide +kernel, rfl, by decide +kernel, by decide +kernel⟩
theorem gives_told (T : Tx K mg) {X : Cx} (hK : X.K = K) (hm : X.mg = mg) (g : Addr) (cdg : Value) (f : Addr) : ∀ (s : Shared) (H : Hp) (Q : VK) (tl : XK → Hp → VK → Prop),
    (∀ (W : WX) (pn : List (Addr × Obj)) (xe : Value → Shared → Prop) (E : XK) (p1 p2 : Pos), Takes ((inDef X ["_law_look", "_law_caught", "_law_back", "error"] "_law_told" (defScope s__law_told) g cdg s H).tr pn xe) W →
      PE ((inDef X ["_law_look", "_law_caught", "_law_back", "error"] "_law_told" (defScope s__law_told) g cdg s H).tr pn xe) (.Call (.Name "_law_look" p1) [] [] p2) (fun σZ HZ Q => σZ[0]? = some (some (.ref f)) ∧ (∀ cls d H', E cls d H' → W cls d σZ H') ∧ tl E HZ Q)) →
    TTold K (He.ga K "MeterError") f tl H Q → ∃ t, PSs (inDef X ["_law_look", "_law_caught", "_law_back", "error"] "_law_told" (defScope s__law_told) g cdg s H).nox (defBody s__law_told) t ∧ t { nx := fun _ H' => Q .non H', rt := Q } (L2.start ["_law_look", "_law_caught", "_law_back", "error"] [.ref f]) H := by
  subst hK hm
  intro s H Q tl act h
  refine ⟨_, pss_cons (ps_asg (pe_tup (pa_cons pe_non (pa_cons pe_non pa_nil))) (pg_tup rfl (pgs_cons (pg_name (i := 1) sc__law_told.nd rfl (.inl rfl)) (pgs_cons (pg_name (i := 2) sc__law_told.nd rfl (.inl rfl)) pgs_nil))))
    (pss_cons (ps_try_keep (i := 3) (c := .ref (He.ga X.K "MeterError"))
      (tb := fun W => tAsg (fun σZ HZ Q => σZ[0]? = some (some (.ref f)) ∧ (∀ cls d H', W cls d (toldS f) H' → W cls d σZ H') ∧ tl (fun cls d H' => W cls d (toldS f) H') HZ Q) (gName 2)) (ts := fun _ _ _ => tAsg (tVar 3) (gName 1))
      rfl rfl rfl sc__law_told.nd rfl rfl ⟨rfl, by decide, .inl T.m_MeterError⟩ (fun W pn xe tk _ => pss_one (ps_set (i := 2) sc__law_told.nd rfl (.inl rfl) (act W pn xe _ _ _ tk))) (fun a oe cls d pn _ _ => pss_one (ps_set (i := 1) sc__law_told.nd rfl (.inl rfl) (pv 3))))
      (pss_one (ps_ret (pe_tup (pa_cons (pv 1) (pa_cons (pv 2) pa_nil)))))), ?_⟩
  refine My.i_go (σ' := [some (.ref f), none, none, none]) rfl ?_
  repeat walk_at "h"
  rename_i t0 H1 S1 f1 e1
  repeat walk_at "h"
  exact ⟨rfl, fun _ _ _ z => z, h H1 S1⟩
theorem sc_is_ratio : FnScope ["value", "above", "below"] ["value"] (defScope s_is_ratio) := ⟨rfl, rfl, rfl, by decide +kernel, rfl, by decide +kernel, by decide +kernel⟩
theorem ok_is_ratio (T : Tx K mg) : FnAt P w K mg base CX0 2 (He.ga K "is_ratio") ["value"] (spIsRatio K) := by
  refine T.f_is_ratio.f.ok sc_is_ratio ?_ (fun cdv A outer s H vs Q E hr h => ?_)
  · walk_at "len"
  · obtain ⟨a, p, rfl, hp, h0, k⟩ := h
    have n0 := nn_num h0
    have d0 := den_pos p
    refine ⟨_, (pss_cons (ps_if (PW.pt (pw_or (pt_not (pt_val (pe_callB call_isi rfl T.b_isinstance (by decide +kernel) (pa_cons (pv 0) (pa_cons (pe_bltn (v := .ty "tuple") rfl T.b_tuple (by decide +kernel) rfl) pa_nil))))) (pw_or1 (pt_cmpR op_ne (pe_callB cr_len rfl T.b_len (by decide +kernel) (pa_cons (pv 0) pa_nil)) pe_int (nomark _))))) (pss_one (ps_ret pe_bl)) pss_nil)
      (pss_cons (ps_asg (pv 0) (pg_tup rfl (pgs_cons (pg_name (i := 1) sc_is_ratio.nd rfl (.inl rfl)) (pgs_cons (pg_name (i := 2) sc_is_ratio.nd rfl (.inl rfl)) pgs_nil))))
      (pss_cons (ps_if (PW.pt (pw_or (pt_not (pt_val (pe_fn T.f_is_integer (ok_is_integer T) (hr.mono (by decide)) (pa_cons (pv 1) pa_nil)))) (pw_or1 (pt_not (pt_val (pe_fn T.f_is_integer (ok_is_integer T) (hr.mono (by decide)) (pa_cons (pv 2) pa_nil))))))) (pss_one (ps_ret pe_bl)) pss_nil)
      (pss_one (ps_ret (pe_and (pe_cmpR op_ge (pv 1) pe_int (nomark _)) (pe_and (pe_cmpR op_ge (pv 2) pe_int (nomark _)) (pe_one (pe_cmpR op_eq (pe_callBfun cr_gcd rfl T.b_gcd (pa_cons (pv 1) (pa_cons (pv 2) pa_nil))) pe_int (nomark _)))))))))), ?_⟩
    refine My.i_go (σ' := [some _, none, none]) rfl ?_
    repeat walk_at "h"
    refine i_isiT (b := true) hp (by decide +kernel) ?_
    repeat walk_at "h"
    refine i_neF rfl ?_
    repeat walk_at "h"
    refine ⟨_, rfl, ?_⟩
    repeat walk_at "h"
    refine ⟨_, rfl, ?_⟩
    repeat walk_at "h"
    refine ite_d n0 ?_
    repeat walk_at "h"
    refine ite_d (by omega) ?_
    repeat walk_at "h"
    refine i_eqT ?_ k
    have := p.reduced
    rw [Int.natAbs_natCast, this]
    rfl
theorem sc_plus : FnScope ["one", "other"] ["one", "other"] (defScope s_plus) := ⟨rfl, rfl, rfl, by decide +kernel, rfl, by decide +kernel, by decide +kernel⟩
theorem ok_plus (T : Tx K mg) : FnAt P w K mg base CX0 2 (He.ga K "plus") ["one", "other"] (spPlus K) := by
  refine T.f_plus.f.ok sc_plus ?_ (fun cdv A outer s H vs Q E hr h => ?_)
  · walk_at "len"
  · obtain ⟨a, b, p, q, j, rfl, hp, hq, zp, zq, hj, -, k⟩ := h
    have z1 := zp.1; have z2 := zp.den; have z3 := zq.1; have z4 := zq.den
    refine ⟨_, (pss_one (ps_ret (pe_fn T.f_ratio (ok_ratio T) (hr.mono (by decide)) (pa_cons (pe_op op_add (pe_op op_mulW (pe_ix ix_seq (pv 0) pe_int (fun _ _ => rfl)) (pe_ix ix_seq (pv 1) pe_int (fun _ _ => rfl))) (pe_op op_mulW (pe_ix ix_seq (pv 1) pe_int (fun _ _ => rfl)) (pe_ix ix_seq (pv 0) pe_int (fun _ _ => rfl)))) (pa_cons (pe_op op_mulW (pe_ix ix_seq (pv 0) pe_int (fun _ _ => rfl)) (pe_ix ix_seq (pv 1) pe_int (fun _ _ => rfl))) pa_nil))))), ?_⟩
    refine My.i_go (σ' := [some _, some _]) rfl ?_
    repeat walk_at "h"
    refine ⟨_, _, rfl, dd_pos p q, pow_le_4000 (abs_add_lt (abs_mul_lt z1 z4) (abs_mul_lt z3 z2)) (by omega), pow_le_4000 (abs_mul_lt z2 z4) (by omega), fun r H' S hr e => ?_⟩
    rw [add_div] at e
    exact k r H' S hr e
theorem sc_times : FnScope ["one", "other"] ["one", "other"] (defScope s_times) := ⟨rfl, rfl, rfl, by decide +kernel, rfl, by decide +kernel, by decide +kernel⟩
theorem ok_times (T : Tx K mg) : FnAt P w K mg base CX0 2 (He.ga K "times") ["one", "other"] (spTimes K) := by
  refine T.f_times.f.ok sc_times ?_ (fun cdv A outer s H vs Q E hr h => ?_)
  · walk_at "len"
  · obtain ⟨a, b, p, q, j, rfl, hp, hq, zp, zq, hj, -, k⟩ := h
    have z1 := zp.1; have z2 := zp.den; have z3 := zq.1; have z4 := zq.den
    refine ⟨_, (pss_one (ps_ret (pe_fn T.f_ratio (ok_ratio T) (hr.mono (by decide)) (pa_cons (pe_op op_mulW (pe_ix ix_seq (pv 0) pe_int (fun _ _ => rfl)) (pe_ix ix_seq (pv 1) pe_int (fun _ _ => rfl))) (pa_cons (pe_op op_mulW (pe_ix ix_seq (pv 0) pe_int (fun _ _ => rfl)) (pe_ix ix_seq (pv 1) pe_int (fun _ _ => rfl))) pa_nil))))), ?_⟩
    refine My.i_go (σ' := [some _, some _]) rfl ?_
    repeat walk_at "h"
    refine ⟨_, _, rfl, dd_pos p q, pow_le_4000 (abs_mul_lt z1 z3) (by omega), pow_le_4000 (abs_mul_lt z2 z4) (by omega), fun r H' S hr e => ?_⟩
    rw [mul_div] at e
    exact k r H' S hr e
theorem sc_over : FnScope ["one", "other"] ["one", "other"] (defScope s_over) := ⟨rfl, rfl, rfl, by decide +kernel, rfl, by decide +kernel, by decide +kernel⟩
theorem ok_over (T : Tx K mg) : FnAt P w K mg base CX0 2 (He.ga K "over") ["one", "other"] (spOver K) := by
  refine T.f_over.f.ok sc_over ?_ (fun cdv A outer s H vs Q E hr h => ?_)
  · walk_at "len"
  · obtain ⟨a, b, p, q, j, rfl, hp, hq, zp, zq, hj, h0, k⟩ := h
    have z1 := zp.1; have z2 := zp.den; have z3 := zq.1; have z4 := zq.den
    refine ⟨_, (pss_one (ps_ret (pe_fn T.f_ratio (ok_ratio T) (hr.mono (by decide)) (pa_cons (pe_op op_mulW (pe_ix ix_seq (pv 0) pe_int (fun _ _ => rfl)) (pe_ix ix_seq (pv 1) pe_int (fun _ _ => rfl))) (pa_cons (pe_op op_mulW (pe_ix ix_seq (pv 0) pe_int (fun _ _ => rfl)) (pe_ix ix_seq (pv 1) pe_int (fun _ _ => rfl))) pa_nil))))), ?_⟩
    refine My.i_go (σ' := [some _, some _]) rfl ?_
    repeat walk_at "h"
    refine ⟨_, _, rfl, dn_pos p h0, pow_le_4000 (abs_mul_lt z1 z4) (by omega), pow_le_4000 (abs_mul_lt z2 z3) (by omega), fun r H' S hr e => ?_⟩
    rw [div_div h0] at e
    exact k r H' S hr e
theorem sc__law_of : FnScope ["_law_pot_here", "_law_some"] ["_law_pot_here", "_law_some"] (defScope s__law_of) := ⟨rfl, rfl, rfl, by decide +kernel, rfl, by decide +kernel, by decide +kernel⟩
theorem ok__law_of (T : Tx K mg) : FnAt P w K mg base CX0 2 (He.ga K "_law_of") ["_law_pot_here", "_law_some"] (spOf K) := by
  refine T.f__law_of.f.ok sc__law_of ?_ (fun cdv A outer s H vs Q E hr h => ?_)
  · walk_at "len"
  · obtain ⟨p, q, xs, n, rfl, hP, hn, hqp, hx, hx0, hx1, k⟩ := h
    refine ⟨_, (pss_one (ps_ret (pe_ix ix_seq (pv 1) (pe_fn T.f__law_take (ok__law_take T) (hr.mono (by decide)) (pa_cons (pv 0) (pa_cons (pe_callB cr_len rfl T.b_len (by decide +kernel) (pa_cons (pv 1) pa_nil)) pa_nil))) (fun _ _ => rfl)))), ?_⟩
    refine My.i_go (σ' := [some _, some _]) rfl ?_
    repeat walk_at "h"
    refine i_lenL hx ?_
    repeat walk_at "h"
    refine ⟨p, xs.length, n, rfl, hP, hn, by omega, by omega, fun r H' h0 h1 hP' hB => ?_⟩
    obtain ⟨v, hv, hm⟩ := atI_mem h0 h1
    exact i_ixsL (hB.seq hqp hx) hv (k v H' hm hP' hB)
theorem sc__law_pair : FnScope ["_law_above", "_law_under", "_law_by"] ["_law_above", "_law_under"] (defScope s__law_pair) := ⟨rfl, rfl, rfl, by decide +kernel, rfl, by decide +kernel, by decide +kernel⟩
theorem ok__law_pair (T : Tx K mg) : FnAt P w K mg base CX0 2 (He.ga K "_law_pair") ["_law_above", "_law_under"] spPair := by
  refine T.f__law_pair.f.ok sc__law_pair ?_ (fun cdv A outer s H vs Q E hr h => ?_)
  · walk_at "len"
  · obtain ⟨a, b, rfl, hb, sa, sb, k⟩ := h
    refine ⟨_, (pss_cons (ps_set (i := 2) sc__law_pair.nd rfl (.inl rfl) (pe_fn T.f__law_common (ok__law_common T) (hr.mono (by decide)) (pa_cons (pv 0) (pa_cons (pv 1) pa_nil))))
      (pss_one (ps_ret (pe_tup (pa_cons (pe_op op_fdivW (pv 0) (pv 2)) (pa_cons (pe_op op_fdivW (pv 1) (pv 2)) pa_nil)))))), ?_⟩
    refine My.i_go (σ' := [some _, some _, none]) rfl ?_
    repeat walk_at "h"
    refine ⟨a, b, rfl, ?_⟩
    obtain ⟨d1, d2⟩ := gcd_div (a := a) hb sb
    repeat walk_at "h"
    rename_i p H1 S hp e
    rw [rat_div hb] at e
    exact k p H1 S hp e
theorem sc_weakening : FnScope ["ohms", "load"] ["ohms", "load"] (defScope s_weakening) := ⟨rfl, rfl, rfl, by decide +kernel, rfl, by decide +kernel, by decide +kernel⟩
theorem ok_weakening (T : Tx K mg) : FnAt P w K mg base CX0 3 (He.ga K "weakening") ["ohms", "load"] (spWeak K) := by
  refine T.f_weakening.f.ok sc_weakening ?_ (fun cdv A outer s H vs Q E hr h => ?_)
  · walk_at "len"
  · obtain ⟨a, b, r, g, j, rfl, ha, hb, zr, zg, hj, hr0, hg0, k⟩ := h
    have h1 := T.t_ONE
    refine ⟨_, (pss_cons (ps_if (pt_not (pt_val (pe_fn T.f_is_ratio (ok_is_ratio T) (hr.mono (by decide)) (pa_cons (pv 1) pa_nil)))) (pss_one ps_never) pss_nil)
      (pss_one (ps_ret (pe_fn T.f_plus (ok_plus T) (hr.mono (by decide)) (pa_cons (pe_glob (v := .ref _) rfl T.m_ONE rfl) (pa_cons (pe_fn T.f_times (ok_times T) (hr.mono (by decide)) (pa_cons (pv 0) (pa_cons (pv 1) pa_nil))) pa_nil)))))), ?_⟩
    refine My.i_go (σ' := [some _, some _]) rfl ?_
    repeat walk_at "h"
    refine ⟨_, _, rfl, hb, hg0, ?_⟩
    repeat walk_at "h"
    refine ⟨_, _, _, _, j, rfl, ha, hb, zr, zg, by omega, trivial, fun p H1 S hp e => ?_⟩
    refine ⟨_, _, (1 : Rat), _, 2 * j + 1, rfl, h1 H1, .of e, sz_one (by omega), (zr.mul zg).mono (by omega), by omega, trivial, fun q H2 S2 hq e2 => ?_⟩
    exact k q H2 (S.trans S2) (S.free hq) e2
theorem sc_covers : FnScope ["one", "other"] ["one", "other"] (defScope s_covers) := ⟨rfl, rfl, rfl, by decide +kernel, rfl, by decide +kernel, by decide +kernel⟩
theorem ok_covers (T : Tx K mg) : FnAt P w K mg base CX0 3 (He.ga K "covers") ["one", "other"] (spSrcCmp K (He.ga K "Source") strong) := by
  refine T.f_covers.f.ok sc_covers ?_ (fun cdv A outer s H vs Q E hr h => ?_)
  · walk_at "len"
  · obtain ⟨s1, s2, v, r, w1, u, j, rfl, ⟨dx, a, b, e1, hv, hr1, v0, r0⟩, ⟨dy, c, d, e2, hw, hu1, w0, u0⟩, zv, zr, zw, zu, hj, k⟩ := h
    have hc := T.c_Source
    refine ⟨_, (pss_cons (ps_if (pt_not (pt_val (pe_fn T.f_at_least (ok_at_least T) (hr.mono (by decide)) (pa_cons (pe_pr T.c_Source T.p_Source_volts (ok_Source_volts T) (hr.mono (by decide)) (pv 0)) (pa_cons (pe_pr T.c_Source T.p_Source_volts (ok_Source_volts T) (hr.mono (by decide)) (pv 1)) pa_nil))))) (pss_one (ps_ret pe_bl)) pss_nil)
      (pss_one (ps_ret (pe_fn T.f_at_least (ok_at_least T) (hr.mono (by decide)) (pa_cons (pe_fn T.f_times (ok_times T) (hr.mono (by decide)) (pa_cons (pe_pr T.c_Source T.p_Source_volts (ok_Source_volts T) (hr.mono (by decide)) (pv 0)) (pa_cons (pe_pr T.c_Source T.p_Source_ohms (ok_Source_ohms T) (hr.mono (by decide)) (pv 1)) pa_nil))) (pa_cons (pe_fn T.f_times (ok_times T) (hr.mono (by decide)) (pa_cons (pe_pr T.c_Source T.p_Source_volts (ok_Source_volts T) (hr.mono (by decide)) (pv 1)) (pa_cons (pe_pr T.c_Source T.p_Source_ohms (ok_Source_ohms T) (hr.mono (by decide)) (pv 0)) pa_nil))) pa_nil)))))), ?_⟩
    refine My.i_go (σ' := [some _, some _]) rfl ?_
    repeat walk_at "h"
    refine ⟨_, _, _, _, j, rfl, hv, hw, zv, zw, by omega, ?_⟩
    repeat walk_at "h"
    refine ite_nb (fun h1 => ?_) (fun h1 => ?_)
    · have h1 : decide (w1 ≤ v) = false := h1
      repeat walk_at "h"
      have q := k H (.refl H)
      unfold strong at q
      rw [h1] at q
      exact q
    · have h1 : decide (w1 ≤ v) = true := h1
      repeat walk_at "h"
      refine ⟨_, _, _, _, j, rfl, hv, hu1, zv, zu, by omega, trivial, fun p H1 S hp e3 => ?_⟩
      repeat walk_at "h"
      refine ⟨_, _, _, _, j, rfl, S.seqT hw, S.seqT hr1, zw, zr, by omega, trivial, fun q H2 S2 hq e4 => ?_⟩
      refine ⟨_, _, _, _, j + j, rfl, S2.seqT (.of e3), .of e4, zv.mul zu, zw.mul zr, by omega, ?_⟩
      have q := k H2 (S.trans S2)
      unfold strong at q
      rw [h1] at q
      exact q
theorem sc__law_plus : FnScope ["_law_one", "_law_other"] ["_law_one", "_law_other"] (defScope s__law_plus) := ⟨rfl, rfl, rfl, by decide +kernel, rfl, by decide +kernel, by decide +kernel⟩
theorem ok__law_plus (T : Tx K mg) : FnAt P w K mg base CX0 3 (He.ga K "_law_plus") ["_law_one", "_law_other"] (spPlus K) := by
  refine T.f__law_plus.f.ok sc__law_plus ?_ (fun cdv A outer s H vs Q E hr h => ?_)
  · walk_at "len"
  · obtain ⟨a, b, p, q, j, rfl, hp, hq, zp, zq, hj, -, k⟩ := h
    have z1 := zp.1; have z2 := zp.den; have z3 := zq.1; have z4 := zq.den
    refine ⟨_, (pss_one (ps_ret (pe_fn T.f__law_pair (ok__law_pair T) (hr.mono (by decide)) (pa_cons (pe_op op_add (pe_op op_mulW (pe_ix ix_seq (pv 0) pe_int (fun _ _ => rfl)) (pe_ix ix_seq (pv 1) pe_int (fun _ _ => rfl))) (pe_op op_mulW (pe_ix ix_seq (pv 1) pe_int (fun _ _ => rfl)) (pe_ix ix_seq (pv 0) pe_int (fun _ _ => rfl)))) (pa_cons (pe_op op_mulW (pe_ix ix_seq (pv 0) pe_int (fun _ _ => rfl)) (pe_ix ix_seq (pv 1) pe_int (fun _ _ => rfl))) pa_nil))))), ?_⟩
    refine My.i_go (σ' := [some _, some _]) rfl ?_
    repeat walk_at "h"
    refine ⟨_, _, rfl, dd_pos p q, pow_le_4000 (abs_add_lt (abs_mul_lt z1 z4) (abs_mul_lt z3 z2)) (by omega), pow_le_4000 (abs_mul_lt z2 z4) (by omega), fun r H' S hr e => ?_⟩
    rw [add_div] at e
    exact k r H' S hr e
theorem sc__law_times : FnScope ["_law_one", "_law_other"] ["_law_one", "_law_other"] (defScope s__law_times) := ⟨rfl, rfl, rfl, by decide +kernel, rfl, by decide +kernel, by decide +kernel⟩
theorem ok__law_times (T : Tx K mg) : FnAt P w K mg base CX0 3 (He.ga K "_law_times") ["_law_one", "_law_other"] (spTimes K) := by
  refine T.f__law_times.f.ok sc__law_times ?_ (fun cdv A outer s H vs Q E hr h => ?_)
  · walk_at "len"
  · obtain ⟨a, b, p, q, j, rfl, hp, hq, zp, zq, hj, -, k⟩ := h
    have z1 := zp.1; have z2 := zp.den; have z3 := zq.1; have z4 := zq.den
    refine ⟨_, (pss_one (ps_ret (pe_fn T.f__law_pair (ok__law_pair T) (hr.mono (by decide)) (pa_cons (pe_op op_mulW (pe_ix ix_seq (pv 0) pe_int (fun _ _ => rfl)) (pe_ix ix_seq (pv 1) pe_int (fun _ _ => rfl))) (pa_cons (pe_op op_mulW (pe_ix ix_seq (pv 0) pe_int (fun _ _ => rfl)) (pe_ix ix_seq (pv 1) pe_int (fun _ _ => rfl))) pa_nil))))), ?_⟩
    refine My.i_go (σ' := [some _, some _]) rfl ?_
    repeat walk_at "h"
    refine ⟨_, _, rfl, dd_pos p q, pow_le_4000 (abs_mul_lt z1 z3) (by omega), pow_le_4000 (abs_mul_lt z2 z4) (by omega), fun r H' S hr e => ?_⟩
    rw [mul_div] at e
    exact k r H' S hr e
theorem sc__law_over : FnScope ["_law_one", "_law_other"] ["_law_one", "_law_other"] (defScope s__law_over) := ⟨rfl, rfl, rfl, by decide +kernel, rfl, by decide +kernel, by decide +kernel⟩
theorem ok__law_over (T : Tx K mg) : FnAt P w K mg base CX0 3 (He.ga K "_law_over") ["_law_one", "_law_other"] (spOver K) := by
  refine T.f__law_over.f.ok sc__law_over ?_ (fun cdv A outer s H vs Q E hr h => ?_)
  · walk_at "len"
  · obtain ⟨a, b, p, q, j, rfl, hp, hq, zp, zq, hj, h0, k⟩ := h
    have z1 := zp.1; have z2 := zp.den; have z3 := zq.1; have z4 := zq.den
    refine ⟨_, (pss_one (ps_ret (pe_fn T.f__law_pair (ok__law_pair T) (hr.mono (by decide)) (pa_cons (pe_op op_mulW (pe_ix ix_seq (pv 0) pe_int (fun _ _ => rfl)) (pe_ix ix_seq (pv 1) pe_int (fun _ _ => rfl))) (pa_cons (pe_op op_mulW (pe_ix ix_seq (pv 0) pe_int (fun _ _ => rfl)) (pe_ix ix_seq (pv 1) pe_int (fun _ _ => rfl))) pa_nil))))), ?_⟩
    refine My.i_go (σ' := [some _, some _]) rfl ?_
    repeat walk_at "h"
    refine ⟨_, _, rfl, dn_pos p h0, pow_le_4000 (abs_mul_lt z1 z4) (by omega), pow_le_4000 (abs_mul_lt z2 z3) (by omega), fun r H' S hr e => ?_⟩
    rw [div_div h0] at e
    exact k r H' S hr e
theorem sc__law_ratio : FnScope ["_law_pot_here", "_law_above"] ["_law_pot_here"] (defScope s__law_ratio) := ⟨rfl, rfl, rfl, by decide +kernel, rfl, by decide +kernel, by decide +kernel⟩
theorem ok__law_ratio (T : Tx K mg) : FnAt P w K mg base CX0 3 (He.ga K "_law_ratio") ["_law_pot_here"] spRatioT := by
  refine T.f__law_ratio.f.ok sc__law_ratio ?_ (fun cdv A outer s H vs Q E hr h => ?_)
  · walk_at "len"
  · obtain ⟨p, n, rfl, hP, hn, k⟩ := h
    refine ⟨_, (pss_cons (ps_set (i := 1) sc__law_ratio.nd rfl (.inl rfl) (pe_fn T.f__law_of (ok__law_of T) (hr.mono (by decide)) (pa_cons (pv 0) (pa_cons (pe_lst (pa_cons (pe_fn T.f__law_take (ok__law_take T) (hr.mono (by decide)) (pa_cons (pv 0) (pa_cons pe_int pa_nil))) (pa_cons (pe_fn T.f__law_take (ok__law_take T) (hr.mono (by decide)) (pa_cons (pv 0) (pa_cons pe_int pa_nil))) (pa_cons pe_int (pa_cons (pe_op op_add (pe_op op_powW pe_int pe_int) (pe_fn T.f__law_take (ok__law_take T) (hr.mono (by decide)) (pa_cons (pv 0) (pa_cons pe_int pa_nil)))) pa_nil))))) pa_nil))))
      (pss_one (ps_ret (pe_fn T.f__law_pair (ok__law_pair T) (hr.mono (by decide)) (pa_cons (pv 1) (pa_cons (pe_op op_add pe_int (pe_fn T.f__law_take (ok__law_take T) (hr.mono (by decide)) (pa_cons (pv 0) (pa_cons pe_int pa_nil)))) pa_nil)))))), ?_⟩
    refine My.i_go (σ' := [some _, none]) rfl ?_
    repeat walk_at "h"
    refine ⟨_, _, n, rfl, hP, by omega, by omega, by omega, fun d H1 d0 d1 P1 B1 => ?_⟩
    repeat walk_at "h"
    refine ⟨_, _, _, rfl, P1, by omega, by omega, by omega, fun d2 H2 d20 d21 P2 B2 => ?_⟩
    repeat walk_at "h"
    refine ⟨_, _, _, rfl, P2, by omega, by omega, by omega, fun d3 H3 d30 d31 P3 B3 => ?_⟩
    repeat walk_at "h"
    rename_i q H4 S4 hq4 e4
    have P4 := P3.same S4
    have hne : q ≠ p := (P3.ne hq4).symm
    refine ⟨_, _, _, _, rfl, P4, by omega, hne, .of e4, by show 0 < 4; decide, by show 4 < 1000000; decide, fun v H5 hv P5 B5 => ?_⟩
    have hv2 : ∃ i : Int, v = .int i ∧ 0 ≤ i ∧ i < 200000000 := by
      have e10 : (10 : Int) ^ Int.toNat 8 = 100000000 := by decide +kernel
      rw [e10] at hv
      rcases List.mem_cons.mp hv with rfl | hv
      · exact ⟨_, rfl, by omega, by omega⟩
      rcases List.mem_cons.mp hv with rfl | hv
      · exact ⟨_, rfl, by omega, by omega⟩
      rcases List.mem_cons.mp hv with rfl | hv
      · exact ⟨_, rfl, by omega, by omega⟩
      rcases List.mem_cons.mp hv with rfl | hv
      · exact ⟨_, rfl, by omega, by omega⟩
      cases hv
    obtain ⟨i, rfl, i0, i1⟩ := hv2
    repeat walk_at "h"
    refine ⟨_, _, _, rfl, P5, by omega, by omega, by omega, fun d6 H6 d60 d61 P6 B6 => ?_⟩
    repeat walk_at "h"
    refine ⟨_, _, rfl, by omega, Nat.lt_of_lt_of_le (show i.natAbs < 2 ^ 30 by omega) (Nat.pow_le_pow_right (by decide) (by decide)), Nat.lt_of_lt_of_le (show (1 + d6).natAbs < 2 ^ 30 by omega) (Nat.pow_le_pow_right (by decide) (by decide)), fun a H7 S7 ha7 e7 => ?_⟩
    have B7 : But p H H6 := (((((B1.trans B2).trans B3).trans S4.but).trans B5).trans B6)
    exact k a H7 _ (B7.trans S7.but) ((P6.same S7).mono (by omega)) (B7.free (P6.ne ha7).symm ha7) e7 (div_nnI i0 (by omega)) (sz_divI (by omega) (by omega) (by omega))
theorem sc_Source___init__ : FnScope ["self", "volts", "ohms"] ["self", "volts", "ohms"] (defScope s_Source___init__) := ⟨rfl, rfl, rfl, by decide +kernel, rfl, by decide +kernel, by decide +kernel⟩
theorem ok_Source___init__ (T : Tx K mg) : FnAt P w K mg base CX0 3 (He.ma K (He.ga K "Source") "__init__") ["self", "volts", "ohms"] (spSrcInit K (He.ga K "Source")) := by
  refine T.d_Source___init__.f.ok sc_Source___init__ ?_ (fun cdv A outer s H vs Q E hr h => ?_)
  · walk_at "len"
  · obtain ⟨x, dx, a, b, v, r, rfl, hx, ha, hb, hv, hr0, k⟩ := h
    have hc := T.c_Source; have n1 := T.a_Source__volts; have n2 := T.a_Source__ohms
    refine ⟨_, (pss_cons (ps_if (pt_not (pt_val (pe_fn T.f_is_ratio (ok_is_ratio T) (hr.mono (by decide)) (pa_cons (pv 1) pa_nil)))) (pss_one ps_never) pss_nil)
      (pss_cons (ps_if (pt_not (pt_val (pe_fn T.f_is_ratio (ok_is_ratio T) (hr.mono (by decide)) (pa_cons (pv 2) pa_nil)))) (pss_one ps_never) pss_nil)
      (pss_cons (ps_fld (pv 0) (pv 1) rfl)
      (pss_one (ps_fld (pv 0) (pv 2) rfl))))), ?_⟩
    refine My.i_go (σ' := [some _, some _, some _]) rfl ?_
    repeat walk_at "h"
    refine ⟨_, _, rfl, ha, hv, ?_⟩
    repeat walk_at "h"
    refine ⟨_, _, rfl, hb, hr0, ?_⟩
    repeat walk_at "h"
    refine ⟨x, _, dx, [], rfl, hx, hc, n1, by show 0 < 1000; decide, ?_⟩
    repeat walk_at "h"
    refine ⟨x, _, dx, _, rfl, upd_same, hc, n2, by show 1 < 1000; decide, ?_⟩
    rw [upd_upd, srcF_eq]
    exact k _ But.upd upd_same
theorem sc_Source___eq__ : FnScope ["self", "other"] ["self", "other"] (defScope s_Source___eq__) := ⟨rfl, rfl, rfl, by decide +kernel, rfl, by decide +kernel, by decide +kernel⟩
theorem ok_Source___eq__ (T : Tx K mg) : FnAt P w K mg base CX0 3 (He.ma K (He.ga K "Source") "__eq__") ["self", "other"] (spSrcEq K (He.ga K "Source")) := by
  refine T.o_Source___eq__.f.ok sc_Source___eq__ ?_ (fun cdv A outer s H vs Q E hr h => ?_)
  · walk_at "len"
  · obtain ⟨s1, s2, v, r, w1, u, rfl, ⟨dx, a, b, e1, hv, hr1, v0, r0⟩, ⟨dy, c, d, e2, hw, hu1, w0, u0⟩, k⟩ := h
    have hc := T.c_Source; have n1 := T.a_Source__volts; have n2 := T.a_Source__ohms
    refine ⟨_, (pss_one (ps_ret (pe_and (pe_callB call_isi rfl T.b_isinstance (by decide +kernel) (pa_cons (pv 1) (pa_cons (pe_glob (v := .ref _) rfl T.k_Source.m rfl) pa_nil))) (pe_and (pe_cmpR (op_eqK (K := K) hr.units rfl) (pe_pr T.c_Source T.p_Source_volts (ok_Source_volts T) (hr.mono (by decide)) (pv 0)) (pe_pr T.c_Source T.p_Source_volts (ok_Source_volts T) (hr.mono (by decide)) (pv 1)) (nomark _)) (pe_one (pe_cmpR (op_eqK (K := K) hr.units rfl) (pe_pr T.c_Source T.p_Source_ohms (ok_Source_ohms T) (hr.mono (by decide)) (pv 0)) (pe_pr T.c_Source T.p_Source_ohms (ok_Source_ohms T) (hr.mono (by decide)) (pv 1)) (nomark _))))))), ?_⟩
    refine My.i_go (σ' := [some _, some _]) rfl ?_
    repeat walk_at "h"
    refine i_isiS e2 T.c_Source T.y_Source ?_
    repeat walk_at "h"
    refine i_eqDR hv hw ?_
    have q : Q (V.bl (decide (v = w1) && decide (r = u))) H := k H (.refl H)
    repeat walk_at "h"
    refine ite_b (fun c1 => ?_) (fun c1 => ?_)
    · rw [c1, Bool.true_and] at q
      repeat walk_at "h"
      exact i_eqDR hr1 hu1 q
    · rw [c1, Bool.false_and] at q
      repeat walk_at "h"
      exact q
theorem sc__law_is_so : FnScope ["_law_told_here", "_law_due"] ["_law_told_here", "_law_due"] (defScope s__law_is_so) := ⟨rfl, rfl, rfl, by decide +kernel, rfl, by decide +kernel, by decide +kernel⟩
theorem ok__law_is_so (T : Tx K mg) : FnGAt P w K mg base CX0 4 (He.ga K "_law_is_so") ["_law_told_here", "_law_due"] (spIsSo K (He.ga K "Source")) := by
  refine fun_okG T.f__law_is_so.f sc__law_is_so ?_ (fun cdv A outer s H vs Q E hgd hr h => ?_)
  · walk_at "len"
  · obtain ⟨s, t, a, b, v, r, j, rfl, hs, ht, ha, hb, zv, zr, j0, hj, k⟩ := h
    have hc := T.c_Source
    obtain ⟨dx, c1, c2, k1, k2, k3, _, _⟩ := id hs
    refine ⟨_, (pss_one (ps_ret (pe_and (pe_callB call_isi rfl T.b_isinstance (by decide +kernel) (pa_cons (pv 0) (pa_cons (pe_glob (v := .ref _) rfl T.k_Source.m rfl) pa_nil))) (pe_one (pe_cmpR op_eq (pe_callB (cr_reprD hgd hr) rfl T.b_repr (by decide +kernel) (pa_cons (pe_tup (pa_cons (pe_pr T.c_Source T.p_Source_volts (ok_Source_volts T) (hr.mono (by decide)) (pv 0)) (pa_cons (pe_pr T.c_Source T.p_Source_ohms (ok_Source_ohms T) (hr.mono (by decide)) (pv 0)) pa_nil))) pa_nil)) (pe_callB (cr_reprD hgd hr) rfl T.b_repr (by decide +kernel) (pa_cons (pv 1) pa_nil)) (nomark _)))))), ?_⟩
    refine My.i_go (σ' := [some _, some _]) rfl ?_
    repeat walk_at "h"
    refine i_isiS k1 T.c_Source T.y_Source ?_
    repeat walk_at "h"
    rename_i t1 H1 S1 f1 e1
    refine i_reprRats (as := [c1, c2]) (ps := [v, r]) j0 hj (.of e1) (.cons ⟨S1.seqT k2, zv⟩ (.cons ⟨S1.seqT k3, zr⟩ .nil)) (by show 2 ≤ 3; decide) ?_
    repeat walk_at "h"
    refine i_reprRats (as := [a, b]) (ps := [v, r]) j0 hj (S1.seqT ht) (.cons ⟨S1.seqT ha, zv⟩ (.cons ⟨S1.seqT hb, zr⟩ .nil)) (by show 2 ≤ 3; decide) ?_
    repeat walk_at "h"
    refine i_eqS rfl ?_
    exact k _ S1
theorem sc_Source_at : FnScope ["self", "load"] ["self", "load"] (defScope s_Source_at) := ⟨rfl, rfl, rfl, by decide +kernel, rfl, by decide +kernel, by decide +kernel⟩
theorem ok_Source_at (T : Tx K mg) : FnAt P w K mg base CX0 4 (He.ma K (He.ga K "Source") "at") ["self", "load"] (spAt K (He.ga K "Source")) := by
  refine T.d_Source_at.f.ok sc_Source_at ?_ (fun cdv A outer s H vs Q E hr h => ?_)
  · walk_at "len"
  · obtain ⟨x, b, v, r, g, j, rfl, ⟨dx, c, d, hx, hv, hr1, v0, r0⟩, hb, zv, zr, zg, hj, g0, k⟩ := h
    have hc := T.c_Source; have n1 := T.a_Source__volts; have n2 := T.a_Source__ohms
    refine ⟨_, (pss_one (ps_ret (pe_fn T.f_over (ok_over T) (hr.mono (by decide)) (pa_cons (pe_fld (pv 0) rfl) (pa_cons (pe_fn T.f_weakening (ok_weakening T) (hr.mono (by decide)) (pa_cons (pe_fld (pv 0) rfl) (pa_cons (pv 1) pa_nil))) pa_nil))))), ?_⟩
    refine My.i_go (σ' := [some _, some _]) rfl ?_
    repeat walk_at "h"
    refine ⟨_, _, _, _, j, rfl, hr1, hb, zr, zg, by omega, r0, g0, fun p H1 S hp e => ?_⟩
    refine ⟨_, _, _, _, 2 * j + 2 * j + 3, rfl, S.seqT hv, .of e, zv.mono (by omega), zr.weak zg, by omega, one_pos r0 g0, fun q H2 S2 hq e2 => ?_⟩
    exact k q H2 (S.trans S2) (S.free hq) e2
theorem sc_Source___ge__ : FnScope ["self", "other"] ["self", "other"] (defScope s_Source___ge__) := ⟨rfl, rfl, rfl, by decide +kernel, rfl, by decide +kernel, by decide +kernel⟩
theorem ok_Source___ge__ (T : Tx K mg) : FnAt P w K mg base CX0 4 (He.ma K (He.ga K "Source") "__ge__") ["self", "other"] (spSrcCmp K (He.ga K "Source") strong) := by
  refine T.o_Source___ge__.f.ok sc_Source___ge__ ?_ (fun cdv A outer s H vs Q E hr h => ?_)
  · walk_at "len"
  · obtain ⟨s1, s2, v, r, w1, u, j, rfl, h1, h2, zv, zr, zw, zu, hj, k⟩ := h
    obtain ⟨dy, c, d, e2, hw, hu1, w0, u0⟩ := id h2
    refine ⟨_, (pss_cons (ps_if (pt_not (pt_val (pe_callB call_isi rfl T.b_isinstance (by decide +kernel) (pa_cons (pv 1) (pa_cons (pe_glob (v := .ref _) rfl T.k_Source.m rfl) pa_nil))))) (pss_one ps_never) pss_nil)
      (pss_one (ps_ret (pe_fn T.f_covers (ok_covers T) (hr.mono (by decide)) (pa_cons (pv 0) (pa_cons (pv 1) pa_nil)))))), ?_⟩
    refine My.i_go (σ' := [some _, some _]) rfl ?_
    repeat walk_at "h"
    refine i_isiS e2 T.c_Source T.y_Source ?_
    repeat walk_at "h"
    exact ⟨_, _, _, _, _, _, j, rfl, h1, h2, zv, zr, zw, zu, hj, k⟩
theorem sc_Source___le__ : FnScope ["self", "other"] ["self", "other"] (defScope s_Source___le__) := ⟨rfl, rfl, rfl, by decide +kernel, rfl, by decide +kernel, by decide +kernel⟩
theorem ok_Source___le__ (T : Tx K mg) : FnAt P w K mg base CX0 4 (He.ma K (He.ga K "Source") "__le__") ["self", "other"] (spSrcCmp K (He.ga K "Source") fun v r w u => strong w u v r) := by
  refine T.o_Source___le__.f.ok sc_Source___le__ ?_ (fun cdv A outer s H vs Q E hr h => ?_)
  · walk_at "len"
  · obtain ⟨s1, s2, v, r, w1, u, j, rfl, h1, h2, zv, zr, zw, zu, hj, k⟩ := h
    obtain ⟨dy, c, d, e2, hw, hu1, w0, u0⟩ := id h2
    refine ⟨_, (pss_cons (ps_if (pt_not (pt_val (pe_callB call_isi rfl T.b_isinstance (by decide +kernel) (pa_cons (pv 1) (pa_cons (pe_glob (v := .ref _) rfl T.k_Source.m rfl) pa_nil))))) (pss_one ps_never) pss_nil)
      (pss_one (ps_ret (pe_fn T.f_covers (ok_covers T) (hr.mono (by decide)) (pa_cons (pv 1) (pa_cons (pv 0) pa_nil)))))), ?_⟩
    refine My.i_go (σ' := [some _, some _]) rfl ?_
    repeat walk_at "h"
    refine i_isiS e2 T.c_Source T.y_Source ?_
    repeat walk_at "h"
    exact ⟨_, _, _, _, _, _, j, rfl, h2, h1, zw, zu, zv, zr, hj, k⟩
theorem sc_repeated : FnScope ["source", "many"] ["source", "many"] (defScope s_repeated) := ⟨rfl, rfl, rfl, by decide +kernel, rfl, by decide +kernel, by decide +kernel⟩
theorem ok_repeated (T : Tx K mg) : FnAt P w K mg base CX0 5 (He.ga K "repeated") ["source", "many"] (spMany K (He.ga K "Source")) := by
  refine T.f_repeated.f.ok sc_repeated ?_ (fun cdv A outer s H vs Q E hr h => ?_)
  · walk_at "len"
  · obtain ⟨s1, m, v, r, j, rfl, ⟨dx, a, b, e1, hv, hr1, v0, r0⟩, m0, mz, zv, zr, j0, hj, k⟩ := h
    have hc := T.c_Source; have n1 := T.a_Source__volts; have n2 := T.a_Source__ohms
    refine ⟨_, (pss_cons (ps_if (PW.pt (pw_or (pt_not (pt_val (pe_fn T.f_is_integer (ok_is_integer T) (hr.mono (by decide)) (pa_cons (pv 1) pa_nil)))) (pw_or1 (pt_cmpR op_lt (pv 1) pe_int (nomark _))))) (pss_one ps_never) pss_nil)
      (pss_one (ps_ret (pe_mk T.k_Source (fm := T.d_Source___init__) (ok_Source___init__ T) (hr.mono (by decide)) (pa_cons (pe_fn T.f_times (ok_times T) (hr.mono (by decide)) (pa_cons (pe_pr T.c_Source T.p_Source_volts (ok_Source_volts T) (hr.mono (by decide)) (pv 0)) (pa_cons (pe_tup (pa_cons (pv 1) (pa_cons pe_int pa_nil))) pa_nil))) (pa_cons (pe_pr T.c_Source T.p_Source_ohms (ok_Source_ohms T) (hr.mono (by decide)) (pv 0)) pa_nil)))))), ?_⟩
    refine My.i_go (σ' := [some _, some _]) rfl ?_
    repeat walk_at "h"
    refine ⟨_, rfl, ?_⟩
    repeat walk_at "h"
    refine ite_dn (by omega) ?_
    repeat walk_at "h"
    rename_i t H1 S1 ht0 ht
    have et : SqT K H1 t (rat (m : Rat)) := .of ht
    refine ⟨_, _, _, _, j, rfl, S1.seqT hv, et, zv, sz_int mz j0, by omega, trivial, fun q H2 S2 hq e4 => ?_⟩
    repeat walk_at "h"
    refine i_mkS (.of e4) (S2.seqT (S1.seqT hr1)) (Rat.mul_nonneg v0 (by exact_mod_cast m0)) r0 fun x H4 S4 hs hA => ?_
    exact k x H4 ((S1.trans S2).trans S4) (S1.free (S2.free hs)) hA
theorem ok_repeated_x (T : Tx K mg) : FnAt P w K mg base (L2.CX P w) 5 (He.ga K "repeated") ["source", "many"] (spManyX K (He.ga K "BadMany")) := by
  refine T.f_repeated.f.okX sc_repeated ?_ (fun cdv A outer s H vs Q E hr h => ?_)
  · walk_at "len"
  · obtain ⟨s, v, rfl, hV, hR⟩ := h
    refine ⟨_, (pss_cons (ps_if (PW.pt (pw_or (pt_not (pt_val (pe_fn T.f_is_integer (ok_is_integer_g T) (hr.mono (by decide)) (pa_cons (pv 1) pa_nil)))) (pw_or1 (pt_cmpR op_lt (pv 1) pe_int (nomark _))))) (pss_one (ps_raise rfl (takes_of rfl rfl rfl rfl) (pmk_oex (T.e_all "BadMany" (by decide +kernel)).o (T.i_all "BadMany" (by decide +kernel)) T.t_init (ok_MeterError___init__ T) (hr.mono (by decide)) T.d_MeterError___init__.b .nil pass0 rfl T.m_BadMany (pa_cons (pv 1) pa_nil)))) pss_nil)
      (pss_one (ps_ret (pe_mk T.k_Source (fm := T.d_Source___init__) (ok_Source___init__ T) (hr.mono (by decide)) (pa_cons (pe_fn T.f_times (ok_times T) (hr.mono (by decide)) (pa_cons (pe_pr T.c_Source T.p_Source_volts (ok_Source_volts T) (hr.mono (by decide)) (pv 0)) (pa_cons (pe_tup (pa_cons (pv 1) (pa_cons pe_int pa_nil))) pa_nil))) (pa_cons (pe_pr T.c_Source T.p_Source_ohms (ok_Source_ohms T) (hr.mono (by decide)) (pv 0)) pa_nil)))))), ?_⟩
    refine My.i_go (σ' := [some _, some _]) rfl ?_
    repeat walk_at "h"
    rcases hV with ⟨i, rfl, hi⟩ | ⟨t, b1, b2, ty, e1, e2, hb⟩
    · refine ⟨.int i, .type "int", true, false, rfl, .base (.int i), kit_ty (by decide +kernel), kit_ty (by decide +kernel), ?_⟩
      rw [show (true && !false) = true from rfl]
      repeat walk_at "h"
      refine ite_d hi ?_
      repeat walk_at "h"
      show tMkO _ _ _ _ _ _ _
      unfold tMkO
      repeat walk_at "h"
      exact i_mkO (T.e_all "BadMany" (by decide +kernel)) fun d H2 n S e => hR d H2 n S e
    · refine ⟨v, t, b1, b2, rfl, ty, e1, e2, ?_⟩
      rw [hb]
      repeat walk_at "h"
      show tMkO _ _ _ _ _ _ _
      unfold tMkO
      repeat walk_at "h"
      exact i_mkO (T.e_all "BadMany" (by decide +kernel)) fun d H2 n S e => hR d H2 n S e
theorem sc_Source___add__ : FnScope ["self", "other"] ["self", "other"] (defScope s_Source___add__) := ⟨rfl, rfl, rfl, by decide +kernel, rfl, by decide +kernel, by decide +kernel⟩
theorem ok_Source___add__ (T : Tx K mg) : FnAt P w K mg base CX0 5 (He.ma K (He.ga K "Source") "__add__") ["self", "other"] (spSrcAdd K (He.ga K "Source")) := by
  refine T.o_Source___add__.f.ok sc_Source___add__ ?_ (fun cdv A outer s H vs Q E hr h => ?_)
  · walk_at "len"
  · obtain ⟨s1, s2, v, r, w1, u, j, rfl, ⟨dx, a, b, e1, hv, hr1, v0, r0⟩, ⟨dy, c, d, e2, hw, hu1, w0, u0⟩, zv, zr, zw, zu, hj, -, k⟩ := h
    have hc := T.c_Source; have n1 := T.a_Source__volts; have n2 := T.a_Source__ohms
    refine ⟨_, (pss_cons (ps_if (pt_not (pt_val (pe_callB call_isi rfl T.b_isinstance (by decide +kernel) (pa_cons (pv 1) (pa_cons (pe_glob (v := .ref _) rfl T.k_Source.m rfl) pa_nil))))) (pss_one ps_never) pss_nil)
      (pss_one (ps_ret (pe_mk T.k_Source (fm := T.d_Source___init__) (ok_Source___init__ T) (hr.mono (by decide)) (pa_cons (pe_fn T.f_plus (ok_plus T) (hr.mono (by decide)) (pa_cons (pe_fld (pv 0) rfl) (pa_cons (pe_pr T.c_Source T.p_Source_volts (ok_Source_volts T) (hr.mono (by decide)) (pv 1)) pa_nil))) (pa_cons (pe_fn T.f_plus (ok_plus T) (hr.mono (by decide)) (pa_cons (pe_fld (pv 0) rfl) (pa_cons (pe_pr T.c_Source T.p_Source_ohms (ok_Source_ohms T) (hr.mono (by decide)) (pv 1)) pa_nil))) pa_nil)))))), ?_⟩
    refine My.i_go (σ' := [some _, some _]) rfl ?_
    repeat walk_at "h"
    refine i_isiS e2 T.c_Source T.y_Source ?_
    repeat walk_at "h"
    refine ⟨_, _, _, _, j, rfl, hv, hw, zv, zw, by omega, trivial, fun p H1 S hp e => ?_⟩
    repeat walk_at "h"
    refine ⟨_, _, _, _, j, rfl, S.seqT hr1, S.seqT hu1, zr, zu, by omega, trivial, fun q H2 S2 hq e4 => ?_⟩
    repeat walk_at "h"
    refine i_mkS (S2.seqT (.of e)) (.of e4) (add_nn v0 w0) (add_nn r0 u0) fun x H4 S4 hs hA => ?_
    exact k x H4 ((S.trans S2).trans S4) (S.free (S2.free hs)) hA
theorem sc_Source___and__ : FnScope ["self", "other", "total", "volts"] ["self", "other"] (defScope s_Source___and__) := ⟨rfl, rfl, rfl, by decide +kernel, rfl, by decide +kernel, by decide +kernel⟩
theorem ok_Source___and__ (T : Tx K mg) : FnAt P w K mg base CX0 5 (He.ma K (He.ga K "Source") "__and__") ["self", "other"] (spSrcAnd K (He.ga K "Source")) := by
  refine T.o_Source___and__.f.ok sc_Source___and__ ?_ (fun cdv A outer s H vs Q E hr h => ?_)
  · walk_at "len"
  · obtain ⟨s1, s2, v, r, w1, u, j, rfl, ⟨dx, a, b, e1, hv, hr1, v0, r0⟩, ⟨dy, c, d, e2, hw, hu1, w0, u0⟩, zv, zr, zw, zu, hj, h0, k⟩ := h
    have hc := T.c_Source; have n1 := T.a_Source__volts; have n2 := T.a_Source__ohms
    refine ⟨_, (pss_cons (ps_if (pt_not (pt_val (pe_callB call_isi rfl T.b_isinstance (by decide +kernel) (pa_cons (pv 1) (pa_cons (pe_glob (v := .ref _) rfl T.k_Source.m rfl) pa_nil))))) (pss_one ps_never) pss_nil)
      (pss_cons (ps_set (i := 2) sc_Source___and__.nd rfl (.inl rfl) (pe_fn T.f_plus (ok_plus T) (hr.mono (by decide)) (pa_cons (pe_fld (pv 0) rfl) (pa_cons (pe_pr T.c_Source T.p_Source_ohms (ok_Source_ohms T) (hr.mono (by decide)) (pv 1)) pa_nil))))
      (pss_cons (ps_if (pt_cmpR op_eq (pe_ix ix_seq (pv 2) pe_int (fun _ _ => rfl)) pe_int (nomark _)) (pss_one ps_never) pss_nil)
      (pss_cons (ps_set (i := 3) sc_Source___and__.nd rfl (.inl rfl) (pe_fn T.f_plus (ok_plus T) (hr.mono (by decide)) (pa_cons (pe_fn T.f_times (ok_times T) (hr.mono (by decide)) (pa_cons (pe_fld (pv 0) rfl) (pa_cons (pe_pr T.c_Source T.p_Source_ohms (ok_Source_ohms T) (hr.mono (by decide)) (pv 1)) pa_nil))) (pa_cons (pe_fn T.f_times (ok_times T) (hr.mono (by decide)) (pa_cons (pe_pr T.c_Source T.p_Source_volts (ok_Source_volts T) (hr.mono (by decide)) (pv 1)) (pa_cons (pe_fld (pv 0) rfl) pa_nil))) pa_nil))))
      (pss_one (ps_ret (pe_mk T.k_Source (fm := T.d_Source___init__) (ok_Source___init__ T) (hr.mono (by decide)) (pa_cons (pe_fn T.f_over (ok_over T) (hr.mono (by decide)) (pa_cons (pv 3) (pa_cons (pv 2) pa_nil))) (pa_cons (pe_fn T.f_over (ok_over T) (hr.mono (by decide)) (pa_cons (pe_fn T.f_times (ok_times T) (hr.mono (by decide)) (pa_cons (pe_fld (pv 0) rfl) (pa_cons (pe_pr T.c_Source T.p_Source_ohms (ok_Source_ohms T) (hr.mono (by decide)) (pv 1)) pa_nil))) (pa_cons (pv 2) pa_nil))) pa_nil))))))))), ?_⟩
    refine My.i_go (σ' := [some _, some _, none, none]) rfl ?_
    repeat walk_at "h"
    refine i_isiS e2 T.c_Source T.y_Source ?_
    repeat walk_at "h"
    refine ⟨_, _, _, _, j, rfl, hr1, hu1, zr, zu, by omega, trivial, fun p H1 S hp e => ?_⟩
    have et : SqT K H1 p (rat (r + u)) := .of e
    repeat walk_at "h"
    refine i_eqF (num_zero h0) ?_
    repeat walk_at "h"
    refine ⟨_, _, _, _, j, rfl, S.seqT hv, S.seqT hu1, zv, zu, by omega, trivial, fun q H2 S2 hq e4 => ?_⟩
    repeat walk_at "h"
    refine ⟨_, _, _, _, j, rfl, S2.seqT (S.seqT hw), S2.seqT (S.seqT hr1), zw, zr, by omega, trivial, fun q3 H3 S3 hq3 e5 => ?_⟩
    repeat walk_at "h"
    refine ⟨_, _, _, _, j + j, rfl, S3.seqT (.of e4), .of e5, zv.mul zu, zw.mul zr, by omega, trivial, fun q4 H4 S4 hq4 e6 => ?_⟩
    have S14 := (S2.trans S3).trans S4
    repeat walk_at "h"
    have zt : Sz (j + j + (j + j) + 1) (r + u) := (zr.add zu).mono (by omega)
    have zm : Sz (j + j + (j + j) + 1) (r * u) := (zr.mul zu).mono (by omega)
    refine ⟨_, _, _, _, j + j + (j + j) + 1, rfl, .of e6, S14.seqT et, (zv.mul zu).add (zw.mul zr), zt, by omega, h0, fun q5 H5 S5 hq5 e7 => ?_⟩
    have S15 := S14.trans S5
    repeat walk_at "h"
    refine ⟨_, _, _, _, j, rfl, S15.seqT (S.seqT hr1), S15.seqT (S.seqT hu1), zr, zu, by omega, trivial, fun q6 H6 S6 hq6 e8 => ?_⟩
    repeat walk_at "h"
    refine ⟨_, _, _, _, j + j + (j + j) + 1, rfl, .of e8, S6.seqT (S15.seqT et), zm, zt, by omega, h0, fun q7 H7 S7 hq7 e9 => ?_⟩
    repeat walk_at "h"
    refine i_mkS (S7.seqT (S6.seqT (.of e7))) (.of e9) (div_nn (add_nn (Rat.mul_nonneg v0 u0) (Rat.mul_nonneg w0 r0)) h0) (div_nn (Rat.mul_nonneg r0 u0) h0) fun x H8 S8 hs hA => ?_
    have S18 := ((S15.trans S6).trans S7).trans S8
    exact k x H8 (S.trans S18) (S.free (S15.free (S6.free (S7.free hs)))) hA
theorem ok_Source___and___x (T : Tx K mg) : FnAt P w K mg base (L2.CX P w) 5 (He.ma K (He.ga K "Source") "__and__") ["self", "other"] (spAndX K (He.ga K "Source") (He.ga K "Short")) := by
  refine T.o_Source___and__.f.okX sc_Source___and__ ?_ (fun cdv A outer s H vs Q E hr h => ?_)
  · walk_at "len"
  · obtain ⟨s1, s2, v, r, w1, u, j, rfl, ⟨dx, a, b, e1, hv, hr1, v0, r0⟩, ⟨dy, c, d, e2, hw, hu1, w0, u0⟩, zr, zu, hj, h0, hR⟩ := h
    have hc := T.c_Source; have n1 := T.a_Source__volts; have n2 := T.a_Source__ohms
    refine ⟨_, (pss_cons (ps_if (pt_not (pt_val (pe_callB call_isi rfl T.b_isinstance (by decide +kernel) (pa_cons (pv 1) (pa_cons (pe_glob (v := .ref _) rfl T.k_Source.m rfl) pa_nil))))) (pss_one ps_never) pss_nil)
      (pss_cons (ps_set (i := 2) sc_Source___and__.nd rfl (.inl rfl) (pe_fn T.f_plus (ok_plus T) (hr.mono (by decide)) (pa_cons (pe_fld (pv 0) rfl) (pa_cons (pe_pr T.c_Source T.p_Source_ohms (ok_Source_ohms T) (hr.mono (by decide)) (pv 1)) pa_nil))))
      (pss_cons (ps_if (pt_cmpR op_eq (pe_ix ix_seq (pv 2) pe_int (fun _ _ => rfl)) pe_int (nomark _)) (pss_one (ps_raise rfl (takes_of rfl rfl rfl rfl) (pmk_oex (T.e_all "Short" (by decide +kernel)).o (T.i_all "Short" (by decide +kernel)) T.t_init (ok_MeterError___init__ T) (hr.mono (by decide)) T.d_MeterError___init__.b .nil pass0 rfl T.m_Short (pa_cons (pv 1) pa_nil)))) pss_nil)
      (pss_cons (ps_set (i := 3) sc_Source___and__.nd rfl (.inl rfl) (pe_fn T.f_plus (ok_plus T) (hr.mono (by decide)) (pa_cons (pe_fn T.f_times (ok_times T) (hr.mono (by decide)) (pa_cons (pe_fld (pv 0) rfl) (pa_cons (pe_pr T.c_Source T.p_Source_ohms (ok_Source_ohms T) (hr.mono (by decide)) (pv 1)) pa_nil))) (pa_cons (pe_fn T.f_times (ok_times T) (hr.mono (by decide)) (pa_cons (pe_pr T.c_Source T.p_Source_volts (ok_Source_volts T) (hr.mono (by decide)) (pv 1)) (pa_cons (pe_fld (pv 0) rfl) pa_nil))) pa_nil))))
      (pss_one (ps_ret (pe_mk T.k_Source (fm := T.d_Source___init__) (ok_Source___init__ T) (hr.mono (by decide)) (pa_cons (pe_fn T.f_over (ok_over T) (hr.mono (by decide)) (pa_cons (pv 3) (pa_cons (pv 2) pa_nil))) (pa_cons (pe_fn T.f_over (ok_over T) (hr.mono (by decide)) (pa_cons (pe_fn T.f_times (ok_times T) (hr.mono (by decide)) (pa_cons (pe_fld (pv 0) rfl) (pa_cons (pe_pr T.c_Source T.p_Source_ohms (ok_Source_ohms T) (hr.mono (by decide)) (pv 1)) pa_nil))) (pa_cons (pv 2) pa_nil))) pa_nil))))))))), ?_⟩
    refine My.i_go (σ' := [some _, some _, none, none]) rfl ?_
    repeat walk_at "h"
    refine i_isiS e2 T.c_Source T.y_Source ?_
    repeat walk_at "h"
    refine ⟨_, _, _, _, j, rfl, hr1, hu1, zr, zu, by omega, trivial, fun p H1 S hp e => ?_⟩
    have e : H1 p = some (.tup (rat (r + u))) := e
    rw [h0] at e
    have et : SqT K H1 p (rat 0) := .of e
    repeat walk_at "h"
    refine i_eqT rfl ?_
    repeat walk_at "h"
    show tMkO _ _ _ _ _ _ _
    unfold tMkO
    repeat walk_at "h"
    exact i_mkO (T.e_all "Short" (by decide +kernel)) fun d H2 n S2 e => (hR.same S) d H2 n S2 e
theorem ok_Source___and___b (T : Tx K mg) : FnAt P w K mg base (L2.CX P w) 5 (He.ma K (He.ga K "Source") "__and__") ["self", "other"] (spAndB K (He.ga K "Source") (He.ga K "Short")) := ((ok_Source___and__ T).lift).or (ok_Source___and___x T)
theorem tabs_nil {K : PySem.W.Frag} {H : Hp} (h : ∀ p ∈ csOf K tf, H p.2 = some (.tbl #[])) : LamX.Tabs (tabs2 K) H := fun p hp => by
  rcases List.mem_cons.mp hp with rfl | hp
  · exact LamX.TabS.nil (h _ (List.mem_map.mpr ⟨_, .head _, rfl⟩))
  · rw [List.mem_singleton.mp hp]
    exact LamX.TabS.nil (h _ (List.mem_map.mpr ⟨_, .tail _ (.head _), rfl⟩))
theorem sc_Source___mul__ : FnScope ["self", "other"] ["self", "other"] (defScope s_Source___mul__) := ⟨rfl, rfl, rfl, by decide +kernel, rfl, by decide +kernel, by decide +kernel⟩
theorem ok_Source___mul__ (T : Tx K mg) : FnAt P w K mg base CX0 6 (He.ma K (He.ga K "Source") "__mul__") ["self", "other"] (spMany K (He.ga K "Source")) := by
  refine T.o_Source___mul__.f.ok sc_Source___mul__ ?_ (fun cdv A outer s H vs Q E hr h => ?_)
  · walk_at "len"
  · obtain ⟨s1, m, v, r, j, rfl, h⟩ := h
    refine ⟨_, (pss_one (ps_ret (pe_fn T.f_repeated (ok_repeated T) (hr.mono (by decide)) (pa_cons (pv 0) (pa_cons (pv 1) pa_nil))))), ?_⟩
    refine My.i_go (σ' := [some _, some _]) rfl ?_
    repeat walk_at "h"
    exact ⟨s1, m, v, r, j, rfl, h⟩
theorem ok_Source___mul___x (T : Tx K mg) : FnAt P w K mg base (L2.CX P w) 6 (He.ma K (He.ga K "Source") "__mul__") ["self", "other"] (spManyX K (He.ga K "BadMany")) := by
  refine T.o_Source___mul__.f.okX sc_Source___mul__ ?_ (fun cdv A outer s H vs Q E hr h => ?_)
  · walk_at "len"
  · obtain ⟨s, v, rfl, h⟩ := h
    refine ⟨_, (pss_one (ps_ret (pe_fnX T.f_repeated (ok_repeated_x T) (hr.mono (by decide)) (passes_call (takes_of rfl rfl rfl rfl) (fun _ _ _ _ h => h)) (pa_cons (pv 0) (pa_cons (pv 1) pa_nil))))), ?_⟩
    refine My.i_go (σ' := [some _, some _]) rfl ?_
    repeat walk_at "h"
    exact ⟨s, v, rfl, h⟩
theorem sc_Source___rmul__ : FnScope ["self", "other"] ["self", "other"] (defScope s_Source___rmul__) := ⟨rfl, rfl, rfl, by decide +kernel, rfl, by decide +kernel, by decide +kernel⟩
theorem ok_Source___rmul__ (T : Tx K mg) : FnAt P w K mg base CX0 6 (He.ma K (He.ga K "Source") "__rmul__") ["self", "other"] (spMany K (He.ga K "Source")) := by
  refine T.o_Source___rmul__.f.ok sc_Source___rmul__ ?_ (fun cdv A outer s H vs Q E hr h => ?_)
  · walk_at "len"
  · obtain ⟨s1, m, v, r, j, rfl, h⟩ := h
    refine ⟨_, (pss_one (ps_ret (pe_fn T.f_repeated (ok_repeated T) (hr.mono (by decide)) (pa_cons (pv 0) (pa_cons (pv 1) pa_nil))))), ?_⟩
    refine My.i_go (σ' := [some _, some _]) rfl ?_
    repeat walk_at "h"
    exact ⟨s1, m, v, r, j, rfl, h⟩
theorem ok_Source___rmul___x (T : Tx K mg) : FnAt P w K mg base (L2.CX P w) 6 (He.ma K (He.ga K "Source") "__rmul__") ["self", "other"] (spManyX K (He.ga K "BadMany")) := by
  refine T.o_Source___rmul__.f.okX sc_Source___rmul__ ?_ (fun cdv A outer s H vs Q E hr h => ?_)
  · walk_at "len"
  · obtain ⟨s, v, rfl, h⟩ := h
    refine ⟨_, (pss_one (ps_ret (pe_fnX T.f_repeated (ok_repeated_x T) (hr.mono (by decide)) (passes_call (takes_of rfl rfl rfl rfl) (fun _ _ _ _ h => h)) (pa_cons (pv 0) (pa_cons (pv 1) pa_nil))))), ?_⟩
    refine My.i_go (σ' := [some _, some _]) rfl ?_
    repeat walk_at "h"
    exact ⟨s, v, rfl, h⟩
def lamA (i : Fin 1) : LamT := lamS ((defBody s__law_is_side_by_side).getD i.val (.Pass ⟨0, 0, 0, 0⟩))
def rdA (K : PySem.W.Frag) : Fin 1 → XK → TE
  | 0, E => tOp (rOwnE (He.ga K "Source") (spAndB K (He.ga K "Source") (He.ga K "Short")) E) (tVar 0) (tVar 1)
theorem rdA0 (K : PySem.W.Frag) (E : XK) : rdA K 0 E = tOp (rOwnE (He.ga K "Source") (spAndB K (He.ga K "Source") (He.ga K "Short")) E) (tVar 0) (tVar 1) := rfl
def lamB : Fin 3 → LamT
  | 0 => lamS ((defBody s__law_are_refused).getD 1 (.Pass ⟨0, 0, 0, 0⟩))
  | 1 => lamS ((defBody s__law_are_refused).getD 2 (.Pass ⟨0, 0, 0, 0⟩))
  | 2 => lamS ((defBody s__law_are_refused).getD 4 (.Pass ⟨0, 0, 0, 0⟩))
def rdB (K : PySem.W.Frag) : Fin 3 → XK → TE
  | 0, E => tOp (rMulK (He.ga K "Source") (spManyX K (He.ga K "BadMany")) E) (tVar 1) (tVar 3)
  | 1, E => tOp (rMulKR (He.ga K "Source") (spManyX K (He.ga K "BadMany")) E) (tVar 3) (tVar 1)
  | 2, E => tOp (rOwnE (He.ga K "Source") (spManyX K (He.ga K "BadMany")) E) (tVar 1) (tVar 2)
theorem rdB0 (K : PySem.W.Frag) (E : XK) : rdB K 0 E = tOp (rMulK (He.ga K "Source") (spManyX K (He.ga K "BadMany")) E) (tVar 1) (tVar 3) := rfl
theorem rdB1 (K : PySem.W.Frag) (E : XK) : rdB K 1 E = tOp (rMulKR (He.ga K "Source") (spManyX K (He.ga K "BadMany")) E) (tVar 3) (tVar 1) := rfl
theorem rdB2 (K : PySem.W.Frag) (E : XK) : rdB K 2 E = tOp (rOwnE (He.ga K "Source") (spManyX K (He.ga K "BadMany")) E) (tVar 1) (tVar 2) := rfl
theorem sc__law_is_side_by_side : FnScope ["_law_one", "_law_other", "_law_first", "_law_second", "_law_caught", "_law_told_here", "_law_ohms", "_law_volts", "_law_shared"] ["_law_one", "_law_other", "_law_first", "_law_second"] (defScope s__law_is_side_by_side) := ⟨rfl, rfl, rfl, by decide +kernel, rfl, by decide +kernel, by decide +kernel⟩
theorem ok__law_is_side_by_side (T : Tx K mg) (TB : ∀ p ∈ csOf K tf, LamX.TabB base mg p.1 p.2) : FnGAt P w K mg base CX0 8 (He.ga K "_law_is_side_by_side") ["_law_one", "_law_other", "_law_first", "_law_second"] (spSide K (He.ga K "Source")) := by
  refine fun_okGL T.f__law_is_side_by_side.f sc__law_is_side_by_side ?_ (fun A outer s H vs Q E hgd hr h => ?_)
  · walk_at "len"
  · obtain ⟨sx, t, f, g, v, r, w1, u, rfl, ⟨h1, a1, b1, hf, ha1, hb1⟩, ⟨h2, a2, b2, hg, ha2, hb2⟩, zv, zr, zw, zu, hT, k⟩ := h
    obtain ⟨oc, od, kV, doc, pm, an, tcd, ct, osl, te, tl, tc⟩ := T.f__law_told.f.ex
    have tb := T.f__law_told.b
    rw [te] at tb tl
    have hL : ∀ i : Fin 1, LamX.LamS (defScope s__law_is_side_by_side) (lamA i).sc := fun i => match i with | 0 => LamX.lamS_by (by decide +kernel)
    have eM := T.e_all "MeterError" (by decide +kernel)
    have eS := T.e_all "Short" (by decide +kernel)
    have exm := exm_er eM (sub_M (T.w_all "Short" (by decide +kernel)))
    have hc := T.c_Source
    refine ⟨_, (pss_cons (ps_asg (pe_give (l := lamA) (t := rdA K) (TT := TTold K (He.ga K "MeterError")) (k := 5) T.f__law_told.m T.f__law_told.f.kp tl tc tb sc__law_told rfl (.inl rfl) (fun f s H Q tl act h => gives_told T rfl rfl _ _ f s H Q tl act h) (hr.mono (by decide)) hL (fun i _ _ _ _ => match i with | 0 => rfl) (pe_lamV (T := tabs2 K) (TB _ (List.mem_map.mpr ⟨_, .head _, rfl⟩)) rfl (.head _) (tabs2_u0 T.x_tabs) (LamX.lamS_by (sc := defScope s__law_is_side_by_side) (by decide +kernel)) rfl) (fun i => match i with | 0 => fun _ _ _ _ _ _ _ hr => (pe_op (op_ownE T.o_Source___and__ rfl (ok_Source___and___b T) (hr.mono (by decide)) T.s_Source (passes_call (takes_of rfl rfl rfl rfl) (fun _ _ _ _ h => h))) (pv 0) (pv 1)))) (pg_tup rfl (pgs_cons (pg_name (i := 4) sc__law_is_side_by_side.nd rfl (.inl rfl)) (pgs_cons (pg_name (i := 5) sc__law_is_side_by_side.nd rfl (.inl rfl)) pgs_nil))))
      (pss_cons (ps_set (i := 6) sc__law_is_side_by_side.nd rfl (.inl rfl) (pe_fn T.f__law_plus (ok__law_plus T) (hr.mono (by decide)) (pa_cons (pe_ix ix_seq (pv 2) pe_int (fun _ _ => rfl)) (pa_cons (pe_ix ix_seq (pv 3) pe_int (fun _ _ => rfl)) pa_nil))))
      (pss_cons (ps_if (pt_cmpR (op_eqK (K := K) hr.units rfl) (pv 6) (pe_tup (pa_cons pe_int (pa_cons pe_int pa_nil))) (nomark _)) (pss_one (ps_ret (pe_and (pe_callB call_isK rfl T.b_isinstance (by decide +kernel) (pa_cons (pv 4) (pa_cons (pe_glob (v := .ref _) rfl T.m_Short rfl) pa_nil))) (pe_one (pe_cmpR (cm_own T.o_Source___eq__ rfl (fun _ _ => rfl) (ok_Source___eq__ T) (hr.mono (by decide))) (pe_kept (pv 4)) (pv 1) (nomark _)))))) pss_nil)
      (pss_cons (ps_set (i := 7) sc__law_is_side_by_side.nd rfl (.inl rfl) (pe_fn T.f__law_plus (ok__law_plus T) (hr.mono (by decide)) (pa_cons (pe_fn T.f__law_times (ok__law_times T) (hr.mono (by decide)) (pa_cons (pe_ix ix_seq (pv 2) pe_int (fun _ _ => rfl)) (pa_cons (pe_ix ix_seq (pv 3) pe_int (fun _ _ => rfl)) pa_nil))) (pa_cons (pe_fn T.f__law_times (ok__law_times T) (hr.mono (by decide)) (pa_cons (pe_ix ix_seq (pv 3) pe_int (fun _ _ => rfl)) (pa_cons (pe_ix ix_seq (pv 2) pe_int (fun _ _ => rfl)) pa_nil))) pa_nil))))
      (pss_cons (ps_set (i := 8) sc__law_is_side_by_side.nd rfl (.inl rfl) (pe_fn T.f__law_over (ok__law_over T) (hr.mono (by decide)) (pa_cons (pe_fn T.f__law_times (ok__law_times T) (hr.mono (by decide)) (pa_cons (pe_ix ix_seq (pv 2) pe_int (fun _ _ => rfl)) (pa_cons (pe_ix ix_seq (pv 3) pe_int (fun _ _ => rfl)) pa_nil))) (pa_cons (pv 6) pa_nil))))
      (pss_one (ps_ret (pe_and (pe_cmpR op_isN (pv 4) pe_non (nomark _)) (pe_one (pe_fnG T.f__law_is_so (ok__law_is_so T) hgd (hr.mono (by decide)) (pa_cons (pv 5) (pa_cons (pe_tup (pa_cons (pe_fn T.f__law_over (ok__law_over T) (hr.mono (by decide)) (pa_cons (pv 7) (pa_cons (pv 6) pa_nil))) (pa_cons (pv 8) pa_nil))) pa_nil)))))))))))), ?_⟩
    refine My.i_go (σ' := [some _, some _, some _, some _, none, none, none, none, none]) rfl ?_
    repeat walk_at "h"
    refine i_give (i_lam hT fun fl H1 E1 T1 n0 L0 => ?_)
    have h1 := h1.ext E1
    have h2 := h2.ext E1
    have hf := seqT_ext hf E1
    have hg := seqT_ext hg E1
    have ha1 := seqT_ext ha1 E1
    have hb1 := seqT_ext hb1 E1
    have ha2 := seqT_ext ha2 E1
    have hb2 := seqT_ext hb2 E1
    refine ⟨0, fl, rfl, fun H2 S2 => ⟨L0.same S2, ?_⟩⟩
    rw [rdA0]
    refine i_op (i_var rfl (i_var rfl ?_))
    obtain ⟨d1, _, _, k1, _, _, v0, r0⟩ := id (h1.same S2)
    obtain ⟨d2, _, _, k2, _, _, w0, u0⟩ := id (h2.same S2)
    refine ⟨sx, t, d1, d2, _, _, rfl, rfl, k1, k2, ?_⟩
    by_cases h0 : r + u = 0
    · refine .inr ⟨sx, t, v, r, w1, u, 30, rfl, h1.same S2, h2.same S2, zr, zu, by omega, h0, fun d H3 nd S3 ed => told_exc exm fun a' H4 t' H5 S4 na ea S5 nt et => ?_⟩
      have SS := ((S2.trans S3).trans S4).trans S5
      have kept : KeptAt H5 (He.ga K "Short") a' (.ref t) := ⟨d, S5 _ _ ea, S5 _ _ (S4 _ _ ed)⟩
      have hf5 := SS.seqT hf
      have hg5 := SS.seqT hg
      clear S2 S3 S4 S5
      repeat walk_at "h"
      refine ⟨b1, b2, r, u, 30, rfl, SS.seqT hb1, SS.seqT hb2, zr, zu, by omega, trivial, fun o H6 S6 o0 eo => ?_⟩
      have eo : H6 o = some (.tup (rat (r + u))) := eo
      rw [h0] at eo
      repeat walk_at "h"
      rename_i t7 H7 S7 f7 e7
      have T7 := S6.trans S7
      refine i_eqDR (p := 0) (q := 0) (.of (S7 _ _ eo)) (.of e7) ?_
      rw [decide_eq_true rfl]
      repeat walk_at "h"
      refine i_isK (kept.same T7) eS kit_same ?_
      repeat walk_at "h"
      refine i_kept (kept.same T7) eS ?_
      repeat walk_at "h"
      have T5 := SS.trans T7
      refine i_srcEq (h2.same T5) (h2.same T5) fun H8 S8 => ?_
      rw [decide_eq_true rfl, decide_eq_true rfl, Bool.and_self]
      exact k H8 (E1.trans (extN_same (T5.trans S8))) (tabs_same T1 (T5.trans S8))
    · have p0 : 0 < r + u := by grind
      refine .inl ⟨sx, t, v, r, w1, u, 30, rfl, h1.same S2, h2.same S2, zv, zr, zw, zu, by omega, p0, fun p H3 S3 np hp => told_ret fun t' H4 S4 nt et => ?_⟩
      have SS := (S2.trans S3).trans S4
      have hp := hp.same S4
      have hf5 := SS.seqT hf
      have hg5 := SS.seqT hg
      clear S2 S3 S4
      repeat walk_at "h"
      refine ⟨b1, b2, r, u, 30, rfl, SS.seqT hb1, SS.seqT hb2, zr, zu, by omega, trivial, fun o H6 S6 o0 eo => ?_⟩
      have eo : H6 o = some (.tup (rat (r + u))) := eo
      repeat walk_at "h"
      rename_i t7 H7 S7 f7 e7
      have T7 := S6.trans S7
      refine i_eqDR (p := r + u) (q := 0) (.of (S7 _ _ eo)) (.of e7) ?_
      rw [decide_eq_false h0]
      have hf7 := T7.seqT hf5
      have hg7 := T7.seqT hg5
      have TT := SS.trans T7
      have eo := S7 _ _ eo
      have hp := hp.same T7
      clear S6 S7 T7 e7 f7 SS hf5 hg5
      repeat walk_at "h"
      refine ⟨a1, b2, v, u, 30, rfl, TT.seqT ha1, TT.seqT hb2, zv, zu, by omega, trivial, fun m1 H8 S8 m10 e8 => ?_⟩
      repeat walk_at "h"
      refine ⟨a2, b1, w1, r, 30, rfl, S8.seqT (TT.seqT ha2), S8.seqT (TT.seqT hb1), zw, zr, by omega, trivial, fun m2 H9 S9 m20 e9 => ?_⟩
      repeat walk_at "h"
      refine ⟨m1, m2, v * u, w1 * r, 60, rfl, S9.seqT (.of e8), .of e9, zv.mul zu, zw.mul zr, by omega, trivial, fun vo H10 S10 vo0 e10 => ?_⟩
      have T10 := (S8.trans S9).trans S10
      clear S8 S9 S10 e8 e9
      repeat walk_at "h"
      refine ⟨b1, b2, r, u, 30, rfl, T10.seqT (TT.seqT hb1), T10.seqT (TT.seqT hb2), zr, zu, by omega, trivial, fun m3 H11 S11 m30 e11 => ?_⟩
      have zo : Sz 121 (r + u) := (zr.add zu).mono (by omega)
      repeat walk_at "h"
      refine ⟨m3, o, r * u, r + u, 121, rfl, .of e11, S11.seqT (T10.seqT (.of eo)), (zr.mul zu).mono (by omega), zo, by omega, p0, fun sh H12 S12 sh0 e12 => ?_⟩
      have T12 := (T10.trans S11).trans S12
      have e10 := S12 _ _ (S11 _ _ e10)
      clear S11 S12 T10 e11
      repeat walk_at "h"
      refine ⟨rfl, ?_⟩
      rw [decide_eq_true rfl]
      repeat walk_at "h"
      refine ⟨vo, o, v * u + w1 * r, r + u, 121, rfl, .of e10, T12.seqT (.of eo), ((zv.mul zu).add (zw.mul zr)).mono (by omega), zo, by omega, p0, fun x1 H13 S13 x10 e13 => ?_⟩
      repeat walk_at "h"
      rename_i t14 H14 S14 f14 e14
      have T14 := (T12.trans S13).trans S14
      have zq1 : Sz 242 ((v * u + w1 * r) / (r + u)) := ((zv.mul zu).add (zw.mul zr)).mono (k := 121) (by omega) |>.div zo p0
      have zq2 : Sz 242 (r * u / (r + u)) := ((zr.mul zu).mono (k := 121) (by omega)).div zo p0
      refine ⟨p, t14, x1, sh, (v * u + w1 * r) / (r + u), r * u / (r + u), 242, rfl, hp.same T14, .of e14, S14.seqT (.of e13), S14.seqT (S13.seqT (.of e12)), zq1, zq2, by omega, by omega, fun H15 S15 => ?_⟩
      exact k H15 (E1.trans (extN_same ((TT.trans T14).trans S15))) (tabs_same T1 ((TT.trans T14).trans S15))
theorem sc__law_are_refused : FnScope ["_law_pot_here", "_law_one", "_law_other", "_law_value", "_law_looks", "_law_look", "_law_due", "_law_caught"] ["_law_pot_here", "_law_one", "_law_other"] (defScope s__law_are_refused) := ⟨rfl, rfl, rfl, by decide +kernel, rfl, by decide +kernel, by decide +kernel⟩
theorem ok__law_are_refused (T : Tx K mg) (TB : ∀ p ∈ csOf K tf, LamX.TabB base mg p.1 p.2) : FnGAt P w K mg base CX0 9 (He.ga K "_law_are_refused") ["_law_pot_here", "_law_one", "_law_other"] (spRefused2 K (He.ga K "Source")) := by
  refine fun_okGL T.f__law_are_refused.f sc__law_are_refused ?_ (fun A outer s H vs Q E hgd hr h => ?_)
  · walk_at "len"
  · obtain ⟨p, sx, sy, n, v, r, w1, u, rfl, hP, hn, h1, h2, hT, k⟩ := h
    obtain ⟨oc, od, kV, doc, pm, an, tcd, ct, osl, te, tl, tc⟩ := T.f__law_told.f.ex
    have tb := T.f__law_told.b
    rw [te] at tb tl
    have hL : ∀ i : Fin 3, LamX.LamS (defScope s__law_are_refused) (lamB i).sc := fun i => match i with | 0 => LamX.lamS_by (by decide +kernel) | 1 => LamX.lamS_by (by decide +kernel) | 2 => LamX.lamS_by (by decide +kernel)
    have hc := T.c_Source
    have hy := T.y_Source
    have eM := T.e_all "MeterError" (by decide +kernel)
    have eR := T.e_all "BadMany" (by decide +kernel)
    have exm := exm_er eM (sub_M (T.w_all "BadMany" (by decide +kernel)))
    refine ⟨_, (pss_cons (ps_set (i := 3) sc__law_are_refused.nd rfl (.inr rfl) (pe_fn T.f__law_of (ok__law_of T) (hr.mono (by decide)) (pa_cons (pv 0) (pa_cons (pe_lst (pa_cons pe_non (pa_cons pe_bl (pa_cons pe_bl (pa_cons (pe_un un_neg pe_int) (pa_cons (pe_un un_neg pe_int) (pa_cons pe_str (pa_cons pe_str (pa_cons (pe_tup (pa_cons pe_int pa_nil)) (pa_cons (pe_lst pa_nil) (pa_cons (pe_lst (pa_cons pe_int pa_nil)) (pa_cons pe_dnewK (pa_cons (pe_tup (pa_cons pe_int (pa_cons pe_int pa_nil))) (pa_cons (pe_tup pa_nil) pa_nil)))))))))))))) pa_nil))))
      (pss_cons (ps_set (i := 4) sc__law_are_refused.nd rfl (.inl rfl) (pe_lst (pa_cons (pe_tup (pa_cons (pe_lamV (T := tabs2 K) (TB _ (List.mem_map.mpr ⟨_, .tail _ (.head _), rfl⟩)) rfl (.tail _ (.head _)) (tabs2_u1 T.x_tabs) (LamX.lamS_by (sc := defScope s__law_are_refused) (by decide +kernel)) rfl) (pa_cons (pv 3) pa_nil))) pa_nil)))
      (pss_cons (ps_expr (pe_bm PySem.F.plainAttrs_list PySem.F.slot_list_append PySem.F.type_list_append mt_append (pv 4) (pa_cons (pe_tup (pa_cons (pe_lamV (T := tabs2 K) (TB _ (List.mem_map.mpr ⟨_, .tail _ (.head _), rfl⟩)) rfl (.tail _ (.head _)) (tabs2_u1 T.x_tabs) (LamX.lamS_by (sc := defScope s__law_are_refused) (by decide +kernel)) rfl) (pa_cons (pv 3) pa_nil))) pa_nil)))
      (pss_cons (ps_for PassesOwn.never rfl (pi_list (pv 4)) (pg_tup rfl (pgs_cons (pg_name (i := 5) sc__law_are_refused.nd rfl (.inl rfl)) (pgs_cons (pg_name (i := 6) sc__law_are_refused.nd rfl (.inl rfl)) pgs_nil))) (pss_cons (ps_set (i := 7) sc__law_are_refused.nd rfl (.inl rfl) (pe_ix ix_seq (pe_give (l := lamB) (t := rdB K) (TT := TTold K (He.ga K "MeterError")) (k := 6) T.f__law_told.m T.f__law_told.f.kp tl tc tb sc__law_told rfl (.inl rfl) (fun f s H Q tl act h => gives_told T rfl rfl _ _ f s H Q tl act h) (hr.mono (by decide)) hL (fun i _ _ _ _ => match i with | 0 => rfl | 1 => rfl | 2 => rfl) (pv 5) (fun i => match i with | 0 => fun _ _ _ _ _ _ _ hr => (pe_op (op_mulK T.o_Source___mul__ (ok_Source___mul___x T) (hr.mono (by decide)) T.s_Source T.b_mul (passes_call (takes_of rfl rfl rfl rfl) (fun _ _ _ _ h => h))) (pv 1) (pv 3)) | 1 => fun _ _ _ _ _ _ _ hr => (pe_op (op_mulKR T.o_Source___rmul__ (ok_Source___rmul___x T) (hr.mono (by decide)) T.s_Source T.b_mul (passes_call (takes_of rfl rfl rfl rfl) (fun _ _ _ _ h => h))) (pv 3) (pv 1)) | 2 => fun _ _ _ _ _ _ _ hr => (pe_op (op_ownE T.o_Source___mul__ rfl (ok_Source___mul___x T) (hr.mono (by decide)) T.s_Source (passes_call (takes_of rfl rfl rfl rfl) (fun _ _ _ _ h => h))) (pv 1) (pv 2)))) pe_int (fun _ _ => rfl)))
      (pss_one (ps_if (PW.pt (pw_or (pt_not (pt_val (pe_callB call_isK rfl T.b_isinstance (by decide +kernel) (pa_cons (pv 7) (pa_cons (pe_glob (v := .ref _) rfl T.m_BadMany rfl) pa_nil))))) (pw_or1 (pt_cmpR op_ne (pe_callB (cr_reprV hgd hr T.y_sys) rfl T.b_repr (by decide +kernel) (pa_cons (pe_kept (pv 7)) pa_nil)) (pe_callB (cr_reprV hgd hr T.y_sys) rfl T.b_repr (by decide +kernel) (pa_cons (pv 6) pa_nil)) (nomark _))))) (pss_one (ps_ret pe_bl)) pss_nil))))
      (pss_cons (ps_set (i := 7) sc__law_are_refused.nd rfl (.inl rfl) (pe_ix ix_seq (pe_give (l := lamB) (t := rdB K) (TT := TTold K (He.ga K "MeterError")) (k := 6) T.f__law_told.m T.f__law_told.f.kp tl tc tb sc__law_told rfl (.inl rfl) (fun f s H Q tl act h => gives_told T rfl rfl _ _ f s H Q tl act h) (hr.mono (by decide)) hL (fun i _ _ _ _ => match i with | 0 => rfl | 1 => rfl | 2 => rfl) (pe_lamV (T := tabs2 K) (TB _ (List.mem_map.mpr ⟨_, .tail _ (.head _), rfl⟩)) rfl (.tail _ (.head _)) (tabs2_u1 T.x_tabs) (LamX.lamS_by (sc := defScope s__law_are_refused) (by decide +kernel)) rfl) (fun i => match i with | 0 => fun _ _ _ _ _ _ _ hr => (pe_op (op_mulK T.o_Source___mul__ (ok_Source___mul___x T) (hr.mono (by decide)) T.s_Source T.b_mul (passes_call (takes_of rfl rfl rfl rfl) (fun _ _ _ _ h => h))) (pv 1) (pv 3)) | 1 => fun _ _ _ _ _ _ _ hr => (pe_op (op_mulKR T.o_Source___rmul__ (ok_Source___rmul___x T) (hr.mono (by decide)) T.s_Source T.b_mul (passes_call (takes_of rfl rfl rfl rfl) (fun _ _ _ _ h => h))) (pv 3) (pv 1)) | 2 => fun _ _ _ _ _ _ _ hr => (pe_op (op_ownE T.o_Source___mul__ rfl (ok_Source___mul___x T) (hr.mono (by decide)) T.s_Source (passes_call (takes_of rfl rfl rfl rfl) (fun _ _ _ _ h => h))) (pv 1) (pv 2)))) pe_int (fun _ _ => rfl)))
      (pss_one (ps_ret (pe_and (pe_callB call_isK rfl T.b_isinstance (by decide +kernel) (pa_cons (pv 7) (pa_cons (pe_glob (v := .ref _) rfl T.m_BadMany rfl) pa_nil))) (pe_one (pe_cmpR (cm_own T.o_Source___eq__ rfl (fun _ _ => rfl) (ok_Source___eq__ T) (hr.mono (by decide))) (pe_kept (pv 7)) (pv 2) (nomark _))))))))))), ?_⟩
    refine My.i_go (σ' := [some _, some _, some _, none, none, none, none, none]) rfl ?_
    repeat walk_at "h"
    refine i_dnew fun d4 G4 S4 f4 e4 => ?_
    repeat walk_at "h"
    rename_i t1 G1 S1 f1 e1 l2 G2 S2 f2 e2 l3 G3 S3 f3 e3 t5 G5 S5 f5 e5 t6 G6 S6 f6 e6 l7 G7 S7 f7 e7
    have T2 := S1.trans S2
    have T3 := T2.trans S3
    have T4 := T3.trans S4
    have T5 := T4.trans S5
    have T6 := T5.trans S6
    have T7 := T6.trans S7
    have P7 := hP.same T7
    refine ⟨p, l7, Vals13 t1 l2 l3 d4 t5 t6, _, rfl, P7, by omega, ((hP.same T6).ne f7).symm, .of e7, by show 0 < 13; decide, by show 13 < 1000000; decide, fun x H5 hv P5 B5 => ?_⟩
    obtain ⟨_, _, _, lp, _⟩ := id hP
    obtain ⟨_, _, _, lp7, _⟩ := id P7
    have PN : H p ≠ none := by rw [lp]; exact fun q => by cases q
    have up : ∀ {a : Addr} {o : HO}, H a = none → G7 a = some o → H5 a = some o := fun {a o} n z => B5 a o (fun q => by rw [q] at n; exact PN n) z
    have F2 := S1.free f2
    have F3 := T2.free f3
    have F4 := T3.free f4
    have F5 := T4.free f5
    have F6 := T5.free f6
    obtain ⟨N5, d, D5⟩ := vals13_dv (F := fun a => H a = none) hv f1 F2 F3 F4 F5 F6 (up f1 (S7 _ _ (S6 _ _ (S5 _ _ (S4 _ _ (S3 _ _ (S2 _ _ e1))))))) (up F2 (S7 _ _ (S6 _ _ (S5 _ _ (S4 _ _ (S3 _ _ e2)))))) (up F3 (S7 _ _ (S6 _ _ (S5 _ _ (S4 _ _ e3))))) (up F4 (S7 _ _ (S6 _ _ (S5 _ _ e4)))) (up F5 (S7 _ _ (S6 _ _ e5))) (up F6 (S7 _ _ e6))
    have h1 := (h1.same T7).but P7 B5
    have h2 := (h2.same T7).but P7 B5
    have hT5 := tabs_but (tabs_same hT T7) lp7 B5
    have BT : ButT p H H5 := (T7.but.trans B5).butT
    clear up F2 F3 F4 F5 F6 T2 T3 T4 T5 T6 T7 S1 S2 S3 S4 S5 S6 S7 B5 hv e1 e2 e3 e4 e5 e6 e7 f1 f2 f3 f4 f5 f6 f7 lp lp7 PN P7 hP hT
    repeat walk_at "h"
    refine i_lam hT5 fun f0 G1 E1 T1 n0 A0 => ?_
    repeat walk_at "h"
    rename_i u0 G2 S2 m0 U0 l G3 S3 m1 hl
    have EXa := E1.trans (extN_same S2)
    have fresh_l : ∀ b o, H5 b = some o → (∀ r, o ≠ .tbl r) → b ≠ l := fun b o e n z => by
      rw [z] at e
      have q := EXa l o e n
      rw [m1] at q
      cases q
    have EX := EXa.trans (extN_same S3)
    have TT := tabs_same (tabs_same T1 S2) S3
    have A0 := (A0.same S2).same S3
    have U0 := S3 _ _ U0
    clear EXa S2 S3 E1 T1 m0 m1 n0 hT5
    repeat walk_at "h"
    refine i_lam TT fun f1 Ga Ea Ta na A1 => ?_
    repeat walk_at "h"
    rename_i u1 Gb Sb mb U1
    have Xj := Ea.trans (extN_same Sb)
    have EX2 := EX.trans Xj
    have hl2 := Xj _ _ hl (fun r z => by cases z)
    have TT2 := tabs_same Ta Sb
    have A1 := A1.same Sb
    have A0 := A0.extN Xj
    have U0 := Xj _ _ U0 (fun r z => by cases z)
    clear Ea Ta na Sb mb Xj EX hl TT
    refine i_app hl2 (Nat.le_of_ble_eq_true rfl) fun G9 Bc hl => ?_
    have EX : LamX.ExtN H5 G9 := fun b o e n => Bc b o (fresh_l b o e n) (EX2 b o e n)
    have TT := tabs_but TT2 hl2 Bc
    have A0 := A0.but hl2 Bc
    have A1 := A1.but hl2 Bc
    have U0 := Bc _ _ (ne_of U0 hl2 (fun z => by cases z)) U0
    have U1 := Bc _ _ (ne_of U1 hl2 (fun z => by cases z)) U1
    clear Bc EX2 hl2 TT2
    repeat walk_at "h"
    have N9 := N5.ext EX
    have D9 := D5.ext EX
    have h1 := h1.ext EX
    have h2 := h2.ext EX
    have P9 := P5.ext EX
    have BT := BT.trans (butT_ext EX)
    have items : ∀ (i : Nat) (x' : V), ([.ref u0, .ref u1] : List V)[i]? = some x' → ∃ (j : Fin 3) (uu f : Addr), x' = V.ref uu ∧ G9 uu = some (.tup [.ref f, x]) ∧ LamAt (envOfC "_law_are_refused" (defScope s__law_are_refused) s.heap.objs.size (He.ga K "_law_are_refused") (.ref (He.codeOf K ("_law_are_refused", none)))) (lamB j).ps (lamB j).body (lamB j).sc G9 f ∧
        ∀ (w5 w6 w7 : Option V) (Hc : Hp) (E : XK) (QQ : VK), Same G9 Hc → Rz (He.ga K "BadMany") Hc x E → rdB K j E [some (.ref p), some (.ref sx), some (.ref sy), some x, some (.ref l), w5, w6, w7] Hc QQ := by
      intro i x' hx
      match i, hx with
      | 0, hx =>
        cases hx
        refine ⟨0, u0, f0, rfl, U0, A0, fun w5 w6 w7 Hc E QQ SC rz => ?_⟩
        rw [rdB0]
        obtain ⟨dx, _, _, k1, _⟩ := id (h1.same SC)
        have N := N9.ext (extN_same SC)
        obtain ⟨n, kd⟩ := N.kd
        exact i_op (i_var rfl (i_var rfl ⟨sx, dx, _, n, rfl, k1, kd, sx, x, rfl, N.not, rz⟩))
      | 1, hx =>
        cases hx
        refine ⟨1, u1, f1, rfl, U1, A1, fun w5 w6 w7 Hc E QQ SC rz => ?_⟩
        rw [rdB1]
        obtain ⟨dx, _, _, k1, _⟩ := id (h1.same SC)
        have N := N9.ext (extN_same SC)
        obtain ⟨n, kd⟩ := N.kd
        exact i_op (i_var rfl (i_var rfl ⟨sx, dx, _, n, rfl, k1, kd, sx, x, rfl, N.not, rz⟩))
      | i + 2, hx => simp at hx
    refine forq_list (xs := [.ref u0, .ref u1]) (fun i σ H' => ∃ (v5 v6 v7 : Option V), σ = [some (.ref p), some (.ref sx), some (.ref sy), some x, some (.ref l), v5, v6, v7] ∧ Same G9 H') ⟨_, _, _, rfl, .refl _⟩ ?_ ?_ ?_
    · rintro i σ H' hi ⟨v5, v6, v7, rfl, S⟩
      exact .of (S _ _ hl)
    · rintro i x' σ H' hx ⟨v5, v6, v7, rfl, S⟩
      obtain ⟨j, uu, f, rfl, hu, hf, hrd⟩ := items i x' hx
      have hu := S _ _ hu
      repeat walk_at "h"
      refine i_give ?_
      repeat walk_at "h"
      refine ⟨j, f, rfl, fun Hb Sb => ⟨(hf.same S).same Sb, hrd _ _ _ Hb _ _ (S.trans Sb) fun dd Hd nd Sd ed => told_exc exm fun a' He' t Hf Se na ea Sf nt et => ?_⟩⟩
      have SS := (((S.trans Sb).trans Sd).trans Se).trans Sf
      have kept : KeptAt Hf (He.ga K "BadMany") a' x := ⟨dd, Sf _ _ ea, Sf _ _ (Se _ _ ed)⟩
      have hd := D9.same SS
      refine i_ixsT (.of et) rfl ?_
      repeat walk_at "h"
      refine i_isK kept eR kit_same ?_
      repeat walk_at "h"
      refine i_kept kept eR ?_
      repeat walk_at "h"
      refine i_reprV hd (by decide) ?_
      repeat walk_at "h"
      refine i_reprV hd (by decide) ?_
      repeat walk_at "h"
      refine i_neS rfl ?_
      repeat walk_at "h"
      exact ⟨_, _, _, rfl, SS⟩
    · rintro σ H' ⟨v5, v6, v7, rfl, S⟩
      repeat walk_at "h"
      refine i_give (i_lam (tabs_same TT S) fun fl Ha Ea Ta na A2 => ?_)
      have h1 := (h1.same S).ext Ea
      have h2 := (h2.same S).ext Ea
      have P9 := (P9.same S).ext Ea
      have BT := (BT.trans S.but.butT).trans (butT_ext Ea)
      refine ⟨2, fl, rfl, fun Hb Sb => ⟨A2.same Sb, ?_⟩⟩
      rw [rdB2]
      obtain ⟨d1, _, _, k1, _⟩ := id (h1.same Sb)
      obtain ⟨d2, _, _, k2, _⟩ := id (h2.same Sb)
      refine i_op (i_var rfl (i_var rfl ⟨sx, sy, d1, d2, _, _, rfl, rfl, k1, k2, sx, .ref sy, rfl, .inr ⟨.ref (He.ga K "Source"), false, false, .base (.ins k2 hc hy.ha hy.hn hy.ht hy.hm), T.i_src, T.j_src, rfl⟩, fun dd Hd nd Sd ed => told_exc exm fun a' He' t Hf Se na ea Sf nt et => ?_⟩))
      have SS := ((Sb.trans Sd).trans Se).trans Sf
      have kept : KeptAt Hf (He.ga K "BadMany") a' (.ref sy) := ⟨dd, Sf _ _ ea, Sf _ _ (Se _ _ ed)⟩
      refine i_ixsT (.of et) rfl ?_
      repeat walk_at "h"
      refine i_isK kept eR kit_same ?_
      repeat walk_at "h"
      refine i_kept kept eR ?_
      repeat walk_at "h"
      refine i_srcEq (h2.same SS) (h2.same SS) fun Hg Sg => ?_
      rw [decide_eq_true rfl, decide_eq_true rfl, Bool.and_self]
      have SG := SS.trans Sg
      exact k Hg (BT.trans SG.but.butT) (tabs_same Ta SG) ((P9.same SG).mono (by omega))
theorem sc__law_pair_right : FnScope ["_law_pot_here", "_law_first", "_law_second", "_law_lap", "_law_way", "_law_many", "_law_one", "_law_other", "_law_due"] ["_law_pot_here"] (defScope s__law_pair_right) := ⟨rfl, rfl, rfl, by decide +kernel, rfl, by decide +kernel, by decide +kernel⟩
theorem ok__law_pair_right (T : Tx K mg) (TB : ∀ p ∈ csOf K tf, LamX.TabB base mg p.1 p.2) : FnGAt P w K mg base CX0 10 (He.ga K "_law_pair_right") ["_law_pot_here"] (spPairRight K) := by
  refine fun_okG T.f__law_pair_right.f sc__law_pair_right ?_ (fun cdv A outer s H vs Q E hgd hr h => ?_)
  · walk_at "len"
  · obtain ⟨p, n, rfl, hP, hn, hT, k⟩ := h
    refine ⟨_, (pss_cons (ps_asg (pe_lc (own := [("_law_lap", 3)]) rfl sc__law_pair_right.nd (pi_range1 rfl T.b_range (pa_cons pe_int pa_nil)) (blkOk_by (own := [("_law_lap", 3)]) (N := ["_law_pot_here", "_law_first", "_law_second", "_law_lap", "_law_way", "_law_many", "_law_one", "_law_other", "_law_due"]) (sc := defScope s__law_pair_right) (by decide +kernel)) (fun _ _ _ _ _ => (pg_name (i := 3) sc__law_pair_right.nd rfl (.inl rfl))) (fun _ _ _ _ _ => pts_nil) (fun _ _ _ _ _ => (pe_tup (pa_cons (pe_fn T.f__law_ratio (ok__law_ratio T) (hr.mono (by decide)) (pa_cons (pv 0) pa_nil)) (pa_cons (pe_fn T.f__law_ratio (ok__law_ratio T) (hr.mono (by decide)) (pa_cons (pv 0) pa_nil)) pa_nil))))) (pg_unl rfl (pgs_cons (pg_name (i := 1) sc__law_pair_right.nd rfl (.inl rfl)) (pgs_cons (pg_name (i := 2) sc__law_pair_right.nd rfl (.inl rfl)) pgs_nil))))
      (pss_cons (ps_par (i := 4) (j := 5) rfl sc__law_pair_right.nd rfl rfl (by decide) rfl rfl (pa_cons (pe_fn T.f__law_take (ok__law_take T) (hr.mono (by decide)) (pa_cons (pv 0) (pa_cons pe_int pa_nil))) (pa_cons (pe_fn T.f__law_of (ok__law_of T) (hr.mono (by decide)) (pa_cons (pv 0) (pa_cons (pe_lst (pa_cons pe_int (pa_cons pe_int (pa_cons pe_int (pa_cons (pe_fn T.f__law_take (ok__law_take T) (hr.mono (by decide)) (pa_cons (pv 0) (pa_cons pe_int pa_nil))) (pa_cons (pe_op op_powW pe_int pe_int) pa_nil)))))) pa_nil))) pa_nil)) rfl)
      (pss_cons (ps_set (i := 1) sc__law_pair_right.nd rfl (.inl rfl) (pe_ifExp (pt_cmpR op_lt (pv 4) pe_int (nomark _)) (pe_tup (pa_cons (pe_ix ix_seq (pv 1) pe_int (fun _ _ => rfl)) (pa_cons (pe_tup (pa_cons pe_int (pa_cons pe_int pa_nil))) pa_nil))) (pv 1)))
      (pss_cons (ps_set (i := 2) sc__law_pair_right.nd rfl (.inl rfl) (pe_ifExp (pt_cmpR op_eq (pv 4) pe_int (nomark _)) (pe_tup (pa_cons (pe_ix ix_seq (pv 2) pe_int (fun _ _ => rfl)) (pa_cons (pe_tup (pa_cons pe_int (pa_cons pe_int pa_nil))) pa_nil))) (pv 2)))
      (pss_cons (ps_par (i := 6) (j := 7) rfl sc__law_pair_right.nd rfl rfl (by decide) rfl rfl (pa_cons (pe_mk T.k_Source (fm := T.d_Source___init__) (ok_Source___init__ T) (hr.mono (by decide)) (pa_cons (pe_ix ix_seq (pv 1) pe_int (fun _ _ => rfl)) (pa_cons (pe_ix ix_seq (pv 1) pe_int (fun _ _ => rfl)) pa_nil))) (pa_cons (pe_mk T.k_Source (fm := T.d_Source___init__) (ok_Source___init__ T) (hr.mono (by decide)) (pa_cons (pe_ix ix_seq (pv 2) pe_int (fun _ _ => rfl)) (pa_cons (pe_ix ix_seq (pv 2) pe_int (fun _ _ => rfl)) pa_nil))) pa_nil)) rfl)
      (pss_cons (ps_if (pt_not (pt_val (pe_fnG T.f__law_is_so (ok__law_is_so T) hgd (hr.mono (by decide)) (pa_cons (pe_op (op_own T.o_Source___add__ rfl (ok_Source___add__ T) (hr.mono (by decide)) T.s_Source) (pv 6) (pv 7)) (pa_cons (pe_tup (pa_cons (pe_fn T.f__law_plus (ok__law_plus T) (hr.mono (by decide)) (pa_cons (pe_ix ix_seq (pv 1) pe_int (fun _ _ => rfl)) (pa_cons (pe_ix ix_seq (pv 2) pe_int (fun _ _ => rfl)) pa_nil))) (pa_cons (pe_fn T.f__law_plus (ok__law_plus T) (hr.mono (by decide)) (pa_cons (pe_ix ix_seq (pv 1) pe_int (fun _ _ => rfl)) (pa_cons (pe_ix ix_seq (pv 2) pe_int (fun _ _ => rfl)) pa_nil))) pa_nil))) pa_nil))))) (pss_one (ps_ret pe_bl)) pss_nil)
      (pss_cons (ps_if (PW.pt (pw_or (pt_not (pt_val (pe_fnG T.f__law_is_side_by_side (ok__law_is_side_by_side T TB) hgd (hr.mono (by decide)) (pa_cons (pv 6) (pa_cons (pv 7) (pa_cons (pv 1) (pa_cons (pv 2) pa_nil))))))) (pw_or1 (pt_not (pt_val (pe_fnG T.f__law_is_side_by_side (ok__law_is_side_by_side T TB) hgd (hr.mono (by decide)) (pa_cons (pv 7) (pa_cons (pv 6) (pa_cons (pv 2) (pa_cons (pv 1) pa_nil)))))))))) (pss_one (ps_ret pe_bl)) pss_nil)
      (pss_cons (ps_set (i := 8) sc__law_pair_right.nd rfl (.inl rfl) (pe_tup (pa_cons (pe_fn T.f__law_times (ok__law_times T) (hr.mono (by decide)) (pa_cons (pe_tup (pa_cons (pv 5) (pa_cons pe_int pa_nil))) (pa_cons (pe_ix ix_seq (pv 1) pe_int (fun _ _ => rfl)) pa_nil))) (pa_cons (pe_ix ix_seq (pv 1) pe_int (fun _ _ => rfl)) pa_nil))))
      (pss_cons (ps_if (PW.pt (pw_or (pt_not (pt_val (pe_fnG T.f__law_is_so (ok__law_is_so T) hgd (hr.mono (by decide)) (pa_cons (pe_op (op_ownI T.o_Source___mul__ (ok_Source___mul__ T) (hr.mono (by decide)) T.s_Source T.q_Source) (pv 6) (pv 5)) (pa_cons (pv 8) pa_nil))))) (pw_or (pt_not (pt_val (pe_fnG T.f__law_is_so (ok__law_is_so T) hgd (hr.mono (by decide)) (pa_cons (pe_op (op_ownR T.o_Source___rmul__ (ok_Source___rmul__ T) (hr.mono (by decide)) T.s_Source T.q_Source) (pv 5) (pv 6)) (pa_cons (pv 8) pa_nil))))) (pw_or1 (pt_not (pt_val (pe_fnG T.f__law_are_refused (ok__law_are_refused T TB) hgd (hr.mono (by decide)) (pa_cons (pv 0) (pa_cons (pv 6) (pa_cons (pv 7) pa_nil)))))))))) (pss_one (ps_ret pe_bl)) pss_nil)
      (pss_one (ps_ret (pe_and (pe_fnG T.f__law_is_so (ok__law_is_so T) hgd (hr.mono (by decide)) (pa_cons (pv 6) (pa_cons (pv 1) pa_nil))) (pe_one (pe_fnG T.f__law_is_so (ok__law_is_so T) hgd (hr.mono (by decide)) (pa_cons (pv 7) (pa_cons (pv 2) pa_nil)))))))))))))))), ?_⟩
    refine My.i_go (σ' := [some _, none, none, none, none, none, none, none, none]) rfl ?_
    repeat walk_at "h"
    refine lcq_range (n := 2) (fun D i H' acc => But p H H' ∧ Pot H' p (n + 10 * i) ∧ p ≠ D ∧ H D = none ∧ ∀ x ∈ acc, PairV H' x) (fun D H' S h e => ⟨S.but, (hP.same S).mono (by omega), hP.ne h, h, fun x hx => by cases hx⟩) ?_ ?_
    · rintro D i H3 acc hi hlen hD ⟨B3, P3, hne, hD0, hW⟩
      repeat walk_at "h"
      refine ⟨rfl, ?_⟩
      repeat walk_at "h"
      refine ⟨p, _, rfl, P3, by omega, fun a H4 v B4 P4 a0 e4 v0 zv => ?_⟩
      repeat walk_at "h"
      refine ⟨p, _, rfl, P4, by omega, fun b H5 r B5 P5 b0 e5 r0 zr => ?_⟩
      repeat walk_at "h"
      rename_i f H6 S6 f6 e6
      obtain ⟨_, _, _, lp, _⟩ := id P3
      obtain ⟨_, _, _, lp4, _⟩ := id P4
      have e4 := B5 _ _ (ne_of e4 lp4 (fun z => by cases z)) e4
      have hD6 := S6 _ _ (B5 _ _ hne.symm (B4 _ _ hne.symm hD))
      refine turn_end hD6 hlen (by omega) fun H7 B7 e7 => ⟨fun c o hc z => B7 c o (ne_of_none z hD0) (S6 _ _ (B5 c o hc (B4 c o hc (B3 c o hc z)))), ((P5.same S6).butA hne B7).mono (by omega), hne, hD0, fun x hx => ?_⟩
      rcases List.mem_append.mp hx with hx | hx
      · exact ((((hW x hx).butL lp B4).butL lp4 B5).same S6).butL hD6 B7
      · obtain rfl : x = V.ref f := by simpa using hx
        exact PairV.butL ⟨f, a, b, v, r, rfl, e6, S6 _ _ e4, S6 _ _ e5, v0, r0, zv, zr⟩ hD6 B7
    · rintro D H3 acc hlen hD ⟨B3, P3, hne, hD0, hW⟩
      obtain ⟨x0, x1, rfl⟩ : ∃ x0 x1, acc = [x0, x1] := by
        match acc, hlen with
        | [a, b], _ => exact ⟨a, b, rfl⟩
      have W0 := hW x0 (by simp)
      have W1 := hW x1 (by simp)
      have P3 : Pot H3 p (n + 20) := P3.mono (by show n + 10 * ((2 : Nat) : Int) ≤ n + 20; omega)
      clear hW
      repeat walk_at "h"
      refine i_unl (.of hD) rfl ?_
      repeat walk_at "h"
      clear hne hD0 hD
      refine ⟨_, _, _, rfl, P3, by omega, by omega, by omega, fun way H4 y0 y1 P4 B4 => ?_⟩
      repeat walk_at "h"
      refine ⟨_, _, _, rfl, P4, by omega, by omega, by omega, fun d5 H5 d50 d51 P5 B5 => ?_⟩
      repeat walk_at "h"
      rename_i l6 H6 S6 f6 e6
      have P6 := P5.same S6
      refine ⟨p, l6, _, _, rfl, P6, by omega, (P5.ne f6).symm, .of e6, by show 0 < 5; decide, by show 5 < 1000000; decide, fun mv H7 hmv P7 B7 => ?_⟩
      have hm : ∃ m : Int, mv = .int m ∧ 0 ≤ m ∧ m < 200000000 := by
        have e10 : (10 : Int) ^ Int.toNat 8 = 100000000 := by decide +kernel
        rw [e10] at hmv
        simp only [List.mem_cons, List.not_mem_nil, or_false] at hmv
        rcases hmv with rfl | rfl | rfl | rfl | rfl <;> exact ⟨_, rfl, by omega, by omega⟩
      obtain ⟨m, rfl, m0, m1⟩ := hm
      obtain ⟨_, _, _, lp, _⟩ := id hP
      obtain ⟨_, _, _, lp3, _⟩ := id P3
      obtain ⟨_, _, _, lp4, _⟩ := id P4
      obtain ⟨_, _, _, lp6, _⟩ := id P6
      have W0 := (((W0.butL lp3 B4).butL lp4 B5).same S6).butL lp6 B7
      have W1 := (((W1.butL lp3 B4).butL lp4 B5).same S6).butL lp6 B7
      have hT7 := tabs_but (tabs_same (tabs_but (tabs_but (tabs_but hT lp B3) lp3 B4) lp4 B5) S6) lp6 B7
      have BT : ButT p H H7 := ((((B3.trans B4).trans B5).trans S6.but).trans B7).butT
      clear lp lp3 lp4 lp6 B3 B4 B5 B7 S6 e6 f6 P3 P4 P5 P6 hT hmv hP d50 d51
      repeat walk_at "h"
      obtain ⟨f0, a0, b0, v', r', rfl, hf0, ha0, hb0, v0', r0', zv', zr'⟩ := W0
      obtain ⟨g0, c0, d0, w', u', rfl, hg0, hc0, hd0, w0', u0', zw', zu'⟩ := W1
      refine i_joinH (fun v H' => Same H7 H' ∧ PairV H' v) (fun _ Q' hQ => ?_) (fun _ Q' hQ => ?_) ?_
      · repeat walk_at "h"
        rename_i t8 H8 S8 f8 e8 t9 H9 S9 f9 e9
        exact hQ _ _ ⟨S8.trans S9, t9, a0, t8, v', 0, rfl, e9, S9 _ _ (S8 _ _ ha0), S9 _ _ e8, v0', by decide, zv', sz_zero.mono (by omega)⟩
      · repeat walk_at "h"
        exact hQ _ _ ⟨.refl _, f0, a0, b0, v', r', rfl, hf0, ha0, hb0, v0', r0', zv', zr'⟩
      rintro _ H8 ⟨S8, W0⟩
      repeat walk_at "h"
      have hg0 := S8 _ _ hg0
      have hc0 := S8 _ _ hc0
      have hd0 := S8 _ _ hd0
      refine i_eqI ?_
      repeat walk_at "h"
      refine i_joinH (fun v H' => Same H8 H' ∧ PairV H' v) (fun _ Q' hQ => ?_) (fun _ Q' hQ => ?_) ?_
      · repeat walk_at "h"
        rename_i t8 H9 S9 f8 e8 t9 H10 S10 f9 e9
        exact hQ _ _ ⟨S9.trans S10, t9, c0, t8, w', 0, rfl, e9, S10 _ _ (S9 _ _ hc0), S10 _ _ e8, w0', by decide, zw', sz_zero.mono (by omega)⟩
      · repeat walk_at "h"
        exact hQ _ _ ⟨.refl _, g0, c0, d0, w', u', rfl, hg0, hc0, hd0, w0', u0', zw', zu'⟩
      rintro _ H9 ⟨S9, W1⟩
      have W0 := W0.same S9
      have S89 := S8.trans S9
      have P9 := P7.same S89
      have hT9 := tabs_same hT7 S89
      have BT := BT.trans S89.but.butT
      clear S8 S9 S89 hg0 hc0 hd0 hf0 ha0 hb0 P7 hT7
      obtain ⟨f, a, b, v, r, rfl, hf, ha, hb, v0, r0, zv, zr⟩ := W0
      obtain ⟨g, c, d, w1, u, rfl, hg, hc, hd, w0, u0, zw, zu⟩ := W1
      repeat walk_at "h"
      refine i_mkS (.of ha) (.of hb) v0 r0 fun sx H10 S10 s0 h1 => ?_
      have hg := S10 _ _ hg
      repeat walk_at "h"
      refine i_mkS (.of (S10 _ _ hc)) (.of (S10 _ _ hd)) w0 u0 fun sy H11 S11 t0 h2 => ?_
      have T11 := S10.trans S11
      have p1 : SrcP K (He.ga K "Source") H11 sx f v r := ⟨h1.same S11, a, b, .of (T11 _ _ hf), .of (T11 _ _ ha), .of (T11 _ _ hb)⟩
      have p2 : SrcP K (He.ga K "Source") H11 sy g w1 u := ⟨h2, c, d, .of (S11 _ _ hg), .of (T11 _ _ hc), .of (T11 _ _ hd)⟩
      have P11 := P9.same T11
      have hT11 := tabs_same hT9 T11
      have BT := BT.trans T11.but.butT
      clear S10 S11 T11 h1 h2 hf ha hb hg hc hd P9 hT9 s0 t0
      repeat walk_at "h"
      refine i_src2 p1.1 p2.1 zv zr zw zu (by omega) trivial fun q H12 S12 q0 hq => ?_
      have p1b := p1.same S12
      have p2b := p2.same S12
      obtain ⟨_, a', b', xf, xa, xb⟩ := p1b
      obtain ⟨_, c', d', xg, xc, xd⟩ := p2b
      repeat walk_at "h"
      refine ⟨a', c', v, w1, 30, rfl, xa, xc, zv, zw, by omega, trivial, fun m1 H13 S13 m10 e1 => ?_⟩
      have xf := S13.seqT xf
      have xg := S13.seqT xg
      repeat walk_at "h"
      refine ⟨b', d', r, u, 30, rfl, S13.seqT xb, S13.seqT xd, zr, zu, by omega, trivial, fun m2 H14 S14 m20 e2 => ?_⟩
      repeat walk_at "h"
      rename_i t15 H15 S15 f15 e15
      refine ⟨q, t15, m1, m2, v + w1, r + u, 61, rfl, hq.same ((S13.trans S14).trans S15), .of e15, .of (S15 _ _ (S14 _ _ e1)), .of (S15 _ _ e2), (zv.add zw).mono (by omega), (zr.add zu).mono (by omega), by omega, by omega, fun H16 S16 => ?_⟩
      have TT := (((S12.trans S13).trans S14).trans S15).trans S16
      have p1 := p1.same TT
      have p2 := p2.same TT
      have P11 := P11.same TT
      have hT11 := tabs_same hT11 TT
      have BT := BT.trans TT.but.butT
      clear S12 S13 S14 S15 S16 TT e1 e2 e15 f15 xf xg xa xb xc xd m10 m20 q0 hq
      repeat walk_at "h"
      refine ⟨sx, sy, f, g, v, r, w1, u, rfl, p1, p2, zv, zr, zw, zu, hT11, fun H17 E17 T17 => ?_⟩
      repeat walk_at "h"
      refine ⟨sy, sx, g, f, w1, u, v, r, rfl, p2.ext E17, p1.ext E17, zw, zu, zv, zr, T17, fun H18 E18 T18 => ?_⟩
      have EE := E17.trans E18
      have p1 := p1.ext EE
      have p2 := p2.ext EE
      have P18 := P11.ext EE
      have BT := BT.trans (butT_ext EE)
      clear E17 E18 T17 EE P11 hT11
      repeat walk_at "h"
      rename_i t19 H19 S19 f19 e19
      obtain ⟨_, a', b', xf, xa, xb⟩ := p1.same S19
      have rm : SqT K H19 t19 (rat (m : Rat)) := by
        have : rat (m : Rat) = [.int m, .int 1] := by simp [rat]
        rw [this]
        exact .of e19
      have zm : Sz 30 (m : Rat) := sz_int (by omega) (by omega)
      refine i_ixsT xf rfl ?_
      repeat walk_at "h"
      refine ⟨t19, a', (m : Rat), v, 30, rfl, rm, xa, zm, zv, by omega, trivial, fun m1 H20 S20 m10 e1 => ?_⟩
      have e1 : H20 m1 = some (.tup (rat (v * (m : Rat)))) := by rw [Rat.mul_comm]; exact e1
      have xf := S20.seqT xf
      have xb := S20.seqT xb
      repeat walk_at "h"
      rename_i t21 H21 S21 f21 e21
      have TT := (S19.trans S20).trans S21
      have p1 := p1.same TT
      have p2 := p2.same TT
      have P18 := P18.same TT
      have T18 := tabs_same T18 TT
      have BT := BT.trans TT.but.butT
      have due : SqT K H21 t21 [.ref m1, .ref b'] := .of e21
      have e1 : SqT K H21 m1 (rat (v * (m : Rat))) := .of (S21 _ _ e1)
      have xb := S21.seqT xb
      clear S19 f19 e19 S20 S21 m10 f21 e21 xf xa rm TT
      repeat walk_at "h"
      refine i_manyI (j := 30) p1.1 m0 (by omega) zv zr (by omega) (by omega) fun q H22 S22 q0 hq => ?_
      repeat walk_at "h"
      refine ⟨q, t21, m1, b', v * (m : Rat), r, 60, rfl, hq, S22.seqT due, S22.seqT e1, S22.seqT xb, (zv.mul zm).mono (by omega), zr.mono (by omega), by omega, by omega, fun H23 S23 => ?_⟩
      have S23 := S22.trans S23
      have p1 := p1.same S23
      have p2 := p2.same S23
      have P18 := P18.same S23
      have T18 := tabs_same T18 S23
      have BT := BT.trans S23.but.butT
      have due := S23.seqT due
      have e1 := S23.seqT e1
      have xb := S23.seqT xb
      clear S22 S23 q0 hq
      repeat walk_at "h"
      refine i_manyR (j := 30) p1.1 m0 (by omega) zv zr (by omega) (by omega) fun q H22 S22 q0 hq => ?_
      repeat walk_at "h"
      refine ⟨q, t21, m1, b', v * (m : Rat), r, 60, rfl, hq, S22.seqT due, S22.seqT e1, S22.seqT xb, (zv.mul zm).mono (by omega), zr.mono (by omega), by omega, by omega, fun H24 S24 => ?_⟩
      have S24 := S22.trans S24
      have p1 := p1.same S24
      have p2 := p2.same S24
      have P18 := P18.same S24
      have T18 := tabs_same T18 S24
      have BT := BT.trans S24.but.butT
      clear S22 S24 q0 hq due e1 xb
      repeat walk_at "h"
      refine ⟨p, sx, sy, _, v, r, w1, u, rfl, P18, by omega, p1.1, p2.1, T18, fun H25 B25 T25 P25 => ?_⟩
      obtain ⟨_, _, _, lp, _⟩ := id P18
      obtain ⟨s1, a', b', xf, xa, xb⟩ := p1.butT lp B25
      obtain ⟨s2, c', d', xg, xc, xd⟩ := p2.butT lp B25
      have BT := BT.trans B25
      repeat walk_at "h"
      refine ⟨sx, f, a', b', v, r, 30, rfl, s1, xf, xa, xb, zv, zr, by omega, by omega, fun H26 S26 => ?_⟩
      repeat walk_at "h"
      refine ⟨sy, g, c', d', w1, u, 30, rfl, s2.same S26, S26.seqT xg, S26.seqT xc, S26.seqT xd, zw, zu, by omega, by omega, fun H27 S27 => ?_⟩
      have TT := S26.trans S27
      exact k H27 (BT.trans TT.but.butT) (tabs_same T25 TT) ((P25.same TT).mono (by omega))
theorem sc_law : FnScope ["_law_script", "_law_place", "_law_pot_here", "_law_lap"] ["_law_script"] (defScope s_law) := ⟨rfl, rfl, rfl, by decide +kernel, rfl, by decide +kernel, by decide +kernel⟩
theorem ok_law (T : Tx K mg) (TB : ∀ p ∈ csOf K tf, LamX.TabB base mg p.1 p.2) : FnGAt P w K mg base CX0 11 (He.ga K "law") ["_law_script"] (spLawT2 K) := by
  refine fun_okG T.f_law.f sc_law ?_ (fun cdv A outer s H vs Q E hgd hr h => ?_)
  · walk_at "len"
  · obtain ⟨a, ns, rfl, hS, hn, hT, k⟩ := h
    refine ⟨_, (pss_cons (ps_for PassesOwn.never rfl (pi_list (pe_fn T.f__law_cells (ok__law_cells T) (hr.mono (by decide)) (pa_cons (pv 0) (pa_cons pe_int pa_nil)))) (pg_name (i := 1) sc_law.nd rfl (.inl rfl)) (pss_cons (ps_set (i := 2) sc_law.nd rfl (.inr rfl) (pe_fn T.f__law_pot (ok__law_pot T) (hr.mono (by decide)) (pa_cons (pv 0) (pa_cons (pv 1) pa_nil))))
      (pss_one (ps_if (pt_not (pt_val (pe_callB (cr_all rfl) rfl T.b_all (by decide +kernel) (pa_cons (pe_lc (own := [("_law_lap", 3)]) rfl sc_law.nd (pi_range1 rfl T.b_range (pa_cons pe_int pa_nil)) (blkOk_by (own := [("_law_lap", 3)]) (N := ["_law_script", "_law_place", "_law_pot_here", "_law_lap"]) (sc := defScope s_law) (by decide +kernel)) (fun _ _ _ _ _ => (pg_name (i := 3) sc_law.nd rfl (.inl rfl))) (fun _ _ _ _ _ => pts_nil) (fun _ _ _ _ _ => (pe_fnG T.f__law_pair_right (ok__law_pair_right T TB) hgd (hr.mono (by decide)) (pa_cons (pv 2) pa_nil)))) pa_nil)))) (pss_one (ps_ret pe_bl)) pss_nil))))
      (pss_one (ps_ret pe_bl))), ?_⟩
    refine My.i_go (σ' := [some _, none, none, none]) rfl ?_
    repeat walk_at "h"
    refine ⟨_, _, _, rfl, hS, hn, by omega, fun q H1 j hj S1 hq0 hq => ?_⟩
    repeat walk_at "h"
    have hS1 := S1.seq hS
    have hT1 := tabs_same hT S1
    refine forq_list (xs := rgV 0 j) (fun i σ H' => ∃ v2 v3 v4 : Option V, σ = [some (.ref a), v2, v3, v4] ∧ LamX.ExtN H1 H' ∧ LamX.Tabs (tabs2 K) H') ⟨_, _, _, rfl, .refl _, hT1⟩ ?_ ?_ ?_
    · rintro i σ H' hi ⟨v2, v3, v4, rfl, S, _⟩
      exact .of (S _ _ hq (fun r z => by cases z))
    · rintro i x σ H' hx ⟨v2, v3, v4, rfl, S, hT⟩
      obtain ⟨rfl, hi⟩ := rgV_at hx
      repeat walk_at "h"
      refine ⟨_, _, _, rfl, seqL_ext hS1 S, by omega, by omega, fun p H2 S2 hp P => ?_⟩
      have SS := S.trans (extN_same S2)
      have hT2 := tabs_same hT S2
      have fp : ∀ c o, H1 c = some o → (∀ r, o ≠ .tbl r) → c ≠ p := fun c o z nt q => by
        rw [q] at z
        have y := S _ _ z nt
        rw [hp] at y
        cases y
      repeat walk_at "h"
      refine lcq_range (n := 6) (fun A i H' acc => LamX.ExtN H1 H' ∧ LamX.Tabs (tabs2 K) H' ∧ Pot H' p (40 * i) ∧ p ≠ A ∧ (∀ c o, H1 c = some o → (∀ r, o ≠ .tbl r) → c ≠ A) ∧ acc = List.replicate i (.bl true)) (fun A H' S h e => ⟨SS.trans (extN_same S), tabs_same hT2 S, (P.same S).mono (by omega), P.ne h, extN_fresh SS h, rfl⟩) ?_ ?_
      · rintro A i H3 acc hi hlen hA ⟨S3, T3, P3, hne, fA, rfl⟩
        repeat walk_at "h"
        refine ⟨rfl, ?_⟩
        repeat walk_at "h"
        refine ⟨p, _, rfl, P3, by omega, T3, fun H4 B4 T4 P4 => ?_⟩
        have hA4 := B4 _ _ hne.symm (fun r z => by cases z) hA
        refine turn_end hA4 hlen (by omega) fun H5 B5 e5 => ⟨fun c o z nt => B5 c o (fA c o z nt) (B4 c o (fp c o z nt) nt (S3 c o z nt)), tabs_but T4 hA4 B5, (P4.butA hne B5).mono (by omega), hne, fA, List.replicate_succ'.symm⟩
      · rintro A H3 acc hlen hA ⟨S3, T3, P3, hne, fA, rfl⟩
        repeat walk_at "h"
        refine i_all (bs := List.replicate 6 true) (.of hA) ?_
        repeat walk_at "h"
        refine iteF ?_
        repeat walk_at "h"
        exact ⟨_, _, _, rfl, S3, T3⟩
    · rintro σ H' ⟨v2, v3, v4, rfl, S, _⟩
      repeat walk_at "h"
      exact k H'
end
/-! ### the end -/
def ds : List Df := [⟨fun K => He.ga K "_wall", "_wall", "_wall", s__wall⟩, ⟨fun K => He.ga K "is_integer", "is_integer", "is_integer", s_is_integer⟩, ⟨fun K => He.ga K "is_ratio", "is_ratio", "is_ratio", s_is_ratio⟩, ⟨fun K => He.ga K "ratio", "ratio", "ratio", s_ratio⟩, ⟨fun K => He.ga K "plus", "plus", "plus", s_plus⟩, ⟨fun K => He.ga K "times", "times", "times", s_times⟩, ⟨fun K => He.ga K "over", "over", "over", s_over⟩, ⟨fun K => He.ga K "at_least", "at_least", "at_least", s_at_least⟩, ⟨fun K => He.ga K "weakening", "weakening", "weakening", s_weakening⟩, ⟨fun K => He.ga K "repeated", "repeated", "repeated", s_repeated⟩, ⟨fun K => He.ga K "covers", "covers", "covers", s_covers⟩, ⟨fun K => He.ga K "_law_pot", "_law_pot", "_law_pot", s__law_pot⟩, ⟨fun K => He.ga K "_law_take", "_law_take", "_law_take", s__law_take⟩, ⟨fun K => He.ga K "_law_of", "_law_of", "_law_of", s__law_of⟩, ⟨fun K => He.ga K "_law_cells", "_law_cells", "_law_cells", s__law_cells⟩, ⟨fun K => He.ga K "_law_common", "_law_common", "_law_common", s__law_common⟩, ⟨fun K => He.ga K "_law_pair", "_law_pair", "_law_pair", s__law_pair⟩, ⟨fun K => He.ga K "_law_plus", "_law_plus", "_law_plus", s__law_plus⟩, ⟨fun K => He.ga K "_law_times", "_law_times", "_law_times", s__law_times⟩, ⟨fun K => He.ga K "_law_over", "_law_over", "_law_over", s__law_over⟩, ⟨fun K => He.ga K "_law_told", "_law_told", "_law_told", s__law_told⟩, ⟨fun K => He.ga K "_law_ratio", "_law_ratio", "_law_ratio", s__law_ratio⟩, ⟨fun K => He.ga K "_law_is_so", "_law_is_so", "_law_is_so", s__law_is_so⟩, ⟨fun K => He.ga K "_law_is_side_by_side", "_law_is_side_by_side", "_law_is_side_by_side", s__law_is_side_by_side⟩, ⟨fun K => He.ga K "_law_are_refused", "_law_are_refused", "_law_are_refused", s__law_are_refused⟩, ⟨fun K => He.ga K "_law_pair_right", "_law_pair_right", "_law_pair_right", s__law_pair_right⟩, ⟨fun K => He.ga K "law", "law", "law", s_law⟩, ⟨fun K => He.ma K (He.ga K "Source") "__init__", "__init__", "Source.__init__", s_Source___init__⟩, ⟨fun K => gtOf K (He.ma K (He.ga K "Source") "volts"), "volts", "Source.volts", s_Source_volts⟩, ⟨fun K => gtOf K (He.ma K (He.ga K "Source") "ohms"), "ohms", "Source.ohms", s_Source_ohms⟩, ⟨fun K => He.ma K (He.ga K "Source") "at", "at", "Source.at", s_Source_at⟩, ⟨fun K => He.ma K (He.ga K "Source") "under", "under", "Source.under", s_Source_under⟩, ⟨fun K => He.ma K (He.ga K "Source") "__add__", "__add__", "Source.__add__", s_Source___add__⟩, ⟨fun K => He.ma K (He.ga K "Source") "__and__", "__and__", "Source.__and__", s_Source___and__⟩, ⟨fun K => He.ma K (He.ga K "Source") "__mul__", "__mul__", "Source.__mul__", s_Source___mul__⟩, ⟨fun K => He.ma K (He.ga K "Source") "__rmul__", "__rmul__", "Source.__rmul__", s_Source___rmul__⟩, ⟨fun K => He.ma K (He.ga K "Source") "__ge__", "__ge__", "Source.__ge__", s_Source___ge__⟩, ⟨fun K => He.ma K (He.ga K "Source") "__le__", "__le__", "Source.__le__", s_Source___le__⟩, ⟨fun K => He.ma K (He.ga K "Source") "__eq__", "__eq__", "Source.__eq__", s_Source___eq__⟩, ⟨fun K => He.ma K (He.ga K "MeterError") "__init__", "__init__", "MeterError.__init__", s_MeterError___init__⟩]
def fa : List He.Fa := [.glo "_wall", .glo "is_integer", .glo "is_ratio", .glo "ratio", .glo "plus", .glo "times", .glo "over", .glo "at_least", .glo "weakening", .glo "repeated", .glo "covers", .glo "_law_pot", .glo "_law_take", .glo "_law_of", .glo "_law_cells", .glo "_law_common", .glo "_law_pair", .glo "_law_plus", .glo "_law_times", .glo "_law_over", .glo "_law_told", .glo "_law_ratio", .glo "_law_is_so", .glo "_law_is_side_by_side", .glo "_law_are_refused", .glo "_law_pair_right", .glo "law", .free "ValueError", .free "list", .free "isinstance", .free "int", .free "range", .free "abs", .free "bool", .free "tuple", .free "len", .free "max", .free "repr", .free "all", .free "min", .cls "Source", .glo "Source", .mkr "Source", .noat "Source" "_volts", .noat "Source" "_ohms", .meth "Source" "__init__", .meth "Source" "at", .meth "Source" "under", .meth "Source" "__add__", .meth "Source" "__and__", .meth "Source" "__mul__", .meth "Source" "__rmul__", .meth "Source" "__ge__", .meth "Source" "__le__", .meth "Source" "__eq__", .meth "MeterError" "__init__", .glo "MeterError", .glo "BadRatio", .glo "Short", .glo "BadMany", .glo "ONE"]
def exs (K : PySem.W.Frag) : List Bool := [bltB K "gcd" "math.gcd", PySem.W.selfFirst K (He.ga K "Source"), propB K "Source" "volts", propB K "Source" "ohms", He.tupB K "ONE" [.int 1, .int 1], insB K "Source", mulB K "Source", neB K (He.ga K "Source"), ecs0.all (fun c => eokB K (He.ga K c)) && clsB K, ecs0.all (fun c => He.eqO (PySem.W.findIn K (.ref (He.ga K c)) "__init__") (some (some (.ref (He.ma K (He.ga K "MeterError") "__init__"))))), decide (PySem.W.typeIn K (.ref (He.ma K (He.ga K "MeterError") "__init__")) = some (.type "function")), ecs0.tail.all (fun c => mroB K (He.ga K c) (He.ga K "MeterError")), mroB0 K (He.ga K "MeterError"), decide (ecs0.map (He.ga K)).Nodup, sysB K, (!decide ((He.cT K ("_law_is_side_by_side", none)).2 = (He.cT K ("_law_are_refused", none)).2)), mulBB K "Source", decide (PySem.W.kitOne K (.ref (He.ga K "Source")) (.type "int") = some false), decide (PySem.W.kitOne K (.ref (He.ga K "Source")) (.type "bool") = some false)]
def ex (K : PySem.W.Frag) : Bool := fa.all (He.Fa.ok K) && (exs K).all id
theorem tx {K : PySem.W.Frag} {h : Heap} {mg : Str → Option Value} (X : K.In h) (G : h.Ns mainGlobals mg) (c : obsK ex ds K = valK ds) : Tx K mg := by
  obtain ⟨e1, e2⟩ := He.ba (says_ex c)
  have E0 : bltB K "gcd" "math.gcd" = true := all_get e2 0 rfl
  have E1 : PySem.W.selfFirst K (He.ga K "Source") = true := all_get e2 1 rfl
  have E2 : propB K "Source" "volts" = true := all_get e2 2 rfl
  have E3 : propB K "Source" "ohms" = true := all_get e2 3 rfl
  have E4 : He.tupB K "ONE" [.int 1, .int 1] = true := all_get e2 4 rfl
  have E5 : insB K "Source" = true := all_get e2 5 rfl
  have E6 : mulB K "Source" = true := all_get e2 6 rfl
  have E7 : neB K (He.ga K "Source") = true := all_get e2 7 rfl
  have E8 : ecs0.all (fun c => eokB K (He.ga K c)) && clsB K = true := all_get e2 8 rfl
  have E9 : ecs0.all (fun c => He.eqO (PySem.W.findIn K (.ref (He.ga K c)) "__init__") (some (some (.ref (He.ma K (He.ga K "MeterError") "__init__"))))) = true := all_get e2 9 rfl
  have E10 : decide (PySem.W.typeIn K (.ref (He.ma K (He.ga K "MeterError") "__init__")) = some (.type "function")) = true := all_get e2 10 rfl
  have E11 : ecs0.tail.all (fun c => mroB K (He.ga K c) (He.ga K "MeterError")) = true := all_get e2 11 rfl
  have E12 : mroB0 K (He.ga K "MeterError") = true := all_get e2 12 rfl
  have E13 : decide (ecs0.map (He.ga K)).Nodup = true := all_get e2 13 rfl
  have E14 : sysB K = true := all_get e2 14 rfl
  have E15 : (!decide ((He.cT K ("_law_is_side_by_side", none)).2 = (He.cT K ("_law_are_refused", none)).2)) = true := all_get e2 15 rfl
  have E16 : mulBB K "Source" = true := all_get e2 16 rfl
  have E17 : decide (PySem.W.kitOne K (.ref (He.ga K "Source")) (.type "int") = some false) = true := all_get e2 17 rfl
  have E18 : decide (PySem.W.kitOne K (.ref (He.ga K "Source")) (.type "bool") = some false) = true := all_get e2 18 rfl
  exact {
    f__wall := gfn_of X G (all_get e1 0 rfl) (says_fun c 0 rfl) (fun _ _ _ _ _ _ us hl => match us, hl with | [_], _ => rfl)
    f_is_integer := gfn_of X G (all_get e1 1 rfl) (says_fun c 1 rfl) (fun _ _ _ _ _ _ us hl => match us, hl with | [_], _ => rfl)
    f_is_ratio := gfn_of X G (all_get e1 2 rfl) (says_fun c 2 rfl) (fun _ _ _ _ _ _ us hl => match us, hl with | [_], _ => rfl)
    f_ratio := gfn_of X G (all_get e1 3 rfl) (says_fun c 3 rfl) (fun _ _ _ _ _ _ us hl => match us, hl with | [_, _], _ => rfl)
    f_plus := gfn_of X G (all_get e1 4 rfl) (says_fun c 4 rfl) (fun _ _ _ _ _ _ us hl => match us, hl with | [_, _], _ => rfl)
    f_times := gfn_of X G (all_get e1 5 rfl) (says_fun c 5 rfl) (fun _ _ _ _ _ _ us hl => match us, hl with | [_, _], _ => rfl)
    f_over := gfn_of X G (all_get e1 6 rfl) (says_fun c 6 rfl) (fun _ _ _ _ _ _ us hl => match us, hl with | [_, _], _ => rfl)
    f_at_least := gfn_of X G (all_get e1 7 rfl) (says_fun c 7 rfl) (fun _ _ _ _ _ _ us hl => match us, hl with | [_, _], _ => rfl)
    f_weakening := gfn_of X G (all_get e1 8 rfl) (says_fun c 8 rfl) (fun _ _ _ _ _ _ us hl => match us, hl with | [_, _], _ => rfl)
    f_repeated := gfn_of X G (all_get e1 9 rfl) (says_fun c 9 rfl) (fun _ _ _ _ _ _ us hl => match us, hl with | [_, _], _ => rfl)
    f_covers := gfn_of X G (all_get e1 10 rfl) (says_fun c 10 rfl) (fun _ _ _ _ _ _ us hl => match us, hl with | [_, _], _ => rfl)
    f__law_pot := gfn_of X G (all_get e1 11 rfl) (says_fun c 11 rfl) (fun _ _ _ _ _ _ us hl => match us, hl with | [_, _], _ => rfl)
    f__law_take := gfn_of X G (all_get e1 12 rfl) (says_fun c 12 rfl) (fun _ _ _ _ _ _ us hl => match us, hl with | [_, _], _ => rfl)
    f__law_of := gfn_of X G (all_get e1 13 rfl) (says_fun c 13 rfl) (fun _ _ _ _ _ _ us hl => match us, hl with | [_, _], _ => rfl)
    f__law_cells := gfn_of X G (all_get e1 14 rfl) (says_fun c 14 rfl) (fun _ _ _ _ _ _ us hl => match us, hl with | [_, _], _ => rfl)
    f__law_common := gfn_of X G (all_get e1 15 rfl) (says_fun c 15 rfl) (fun _ _ _ _ _ _ us hl => match us, hl with | [_, _], _ => rfl)
    f__law_pair := gfn_of X G (all_get e1 16 rfl) (says_fun c 16 rfl) (fun _ _ _ _ _ _ us hl => match us, hl with | [_, _], _ => rfl)
    f__law_plus := gfn_of X G (all_get e1 17 rfl) (says_fun c 17 rfl) (fun _ _ _ _ _ _ us hl => match us, hl with | [_, _], _ => rfl)
    f__law_times := gfn_of X G (all_get e1 18 rfl) (says_fun c 18 rfl) (fun _ _ _ _ _ _ us hl => match us, hl with | [_, _], _ => rfl)
    f__law_over := gfn_of X G (all_get e1 19 rfl) (says_fun c 19 rfl) (fun _ _ _ _ _ _ us hl => match us, hl with | [_, _], _ => rfl)
    f__law_told := gfn_of X G (all_get e1 20 rfl) (says_fun c 20 rfl) (fun _ _ _ _ _ _ us hl => match us, hl with | [_], _ => rfl)
    f__law_ratio := gfn_of X G (all_get e1 21 rfl) (says_fun c 21 rfl) (fun _ _ _ _ _ _ us hl => match us, hl with | [_], _ => rfl)
    f__law_is_so := gfn_of X G (all_get e1 22 rfl) (says_fun c 22 rfl) (fun _ _ _ _ _ _ us hl => match us, hl with | [_, _], _ => rfl)
    f__law_is_side_by_side := gfn_of X G (all_get e1 23 rfl) (says_fun c 23 rfl) (fun _ _ _ _ _ _ us hl => match us, hl with | [_, _, _, _], _ => rfl)
    f__law_are_refused := gfn_of X G (all_get e1 24 rfl) (says_fun c 24 rfl) (fun _ _ _ _ _ _ us hl => match us, hl with | [_, _, _], _ => rfl)
    f__law_pair_right := gfn_of X G (all_get e1 25 rfl) (says_fun c 25 rfl) (fun _ _ _ _ _ _ us hl => match us, hl with | [_], _ => rfl)
    f_law := gfn_of X G (all_get e1 26 rfl) (says_fun c 26 rfl) (fun _ _ _ _ _ _ us hl => match us, hl with | [_], _ => rfl)
    b_ValueError := He.free_ok X G (all_get e1 27 rfl)
    b_list := He.free_ok X G (all_get e1 28 rfl)
    b_isinstance := He.free_ok X G (all_get e1 29 rfl)
    b_int := He.free_ok X G (all_get e1 30 rfl)
    b_range := He.free_ok X G (all_get e1 31 rfl)
    b_abs := He.free_ok X G (all_get e1 32 rfl)
    b_bool := He.free_ok X G (all_get e1 33 rfl)
    b_tuple := He.free_ok X G (all_get e1 34 rfl)
    b_len := He.free_ok X G (all_get e1 35 rfl)
    b_max := He.free_ok X G (all_get e1 36 rfl)
    b_repr := He.free_ok X G (all_get e1 37 rfl)
    b_all := He.free_ok X G (all_get e1 38 rfl)
    b_min := He.free_ok X G (all_get e1 39 rfl)
    b_gcd := bltB_ok X G (E0)
    c_Source := He.cls_ok (all_get e1 40 rfl)
    k_Source := gmk_of X G (all_get e1 41 rfl) (all_get e1 42 rfl)
    s_Source := E1
    a_Source__volts := He.noat_ok (all_get e1 43 rfl)
    a_Source__ohms := He.noat_ok (all_get e1 44 rfl)
    d_Source___init__ := gme_of (all_get e1 45 rfl) (says_fun c 27 rfl) (fun _ _ _ _ _ _ us hl => match us, hl with | [_, _, _], _ => rfl)
    p_Source_volts := gpr_of (E2) (says_fun c 28 rfl) (fun _ _ _ _ _ _ us hl => match us, hl with | [_], _ => rfl)
    p_Source_ohms := gpr_of (E3) (says_fun c 29 rfl) (fun _ _ _ _ _ _ us hl => match us, hl with | [_], _ => rfl)
    d_Source_at := gme_of (all_get e1 46 rfl) (says_fun c 30 rfl) (fun _ _ _ _ _ _ us hl => match us, hl with | [_, _], _ => rfl)
    d_Source_under := gme_of (all_get e1 47 rfl) (says_fun c 31 rfl) (fun _ _ _ _ _ _ us hl => match us, hl with | [_, _], _ => rfl)
    o_Source___add__ := gop_of (all_get e1 48 rfl) (says_fun c 32 rfl) (fun _ _ _ _ _ _ us hl => match us, hl with | [_, _], _ => rfl)
    o_Source___and__ := gop_of (all_get e1 49 rfl) (says_fun c 33 rfl) (fun _ _ _ _ _ _ us hl => match us, hl with | [_, _], _ => rfl)
    o_Source___mul__ := gop_of (all_get e1 50 rfl) (says_fun c 34 rfl) (fun _ _ _ _ _ _ us hl => match us, hl with | [_, _], _ => rfl)
    o_Source___rmul__ := gop_of (all_get e1 51 rfl) (says_fun c 35 rfl) (fun _ _ _ _ _ _ us hl => match us, hl with | [_, _], _ => rfl)
    o_Source___ge__ := gop_of (all_get e1 52 rfl) (says_fun c 36 rfl) (fun _ _ _ _ _ _ us hl => match us, hl with | [_, _], _ => rfl)
    o_Source___le__ := gop_of (all_get e1 53 rfl) (says_fun c 37 rfl) (fun _ _ _ _ _ _ us hl => match us, hl with | [_, _], _ => rfl)
    o_Source___eq__ := gop_of (all_get e1 54 rfl) (says_fun c 38 rfl) (fun _ _ _ _ _ _ us hl => match us, hl with | [_, _], _ => rfl)
    d_MeterError___init__ := gme_of (all_get e1 55 rfl) (says_fun c 39 rfl) (fun _ _ _ _ _ _ us hl => match us, hl with | [_, _], _ => rfl)
    m_MeterError := He.glo_ok X G (all_get e1 56 rfl)
    m_BadRatio := He.glo_ok X G (all_get e1 57 rfl)
    m_Short := He.glo_ok X G (all_get e1 58 rfl)
    m_BadMany := He.glo_ok X G (all_get e1 59 rfl)
    m_ONE := He.glo_ok X G (all_get e1 60 rfl)
    t_ONE := He.tupB_ok (E4)
    y_Source := insB_ok (E5)
    q_Source := mulB_ok E6
    n_Source := E7
    e_all := eok_all E8
    i_all := fun c hc => He.eqO_ok (List.all_eq_true.mp E9 c hc)
    t_init := of_decide_eq_true E10
    w_all := fun c hc => List.all_eq_true.mp E11 c hc
    w_0 := E12
    dist := of_decide_eq_true E13
    y_sys := sysB_ok E14
    x_tabs := ne_of_b E15
    b_mul := mulBB_ok E16
    i_src := of_decide_eq_true E17
    j_src := of_decide_eq_true E18
  }
abbrev RR : PySem.W.OpenRow := PySem.W.OpenLaw.row PySem.Challenge.rw_rangehunt_k02_sources_put_together
def loose : List Str := (["gcd", "_wall", "__name__", "is_integer", "is_ratio", "ratio", "plus", "times", "over", "at_least", "MeterError", "BadRatio", "Short", "BadMany", "ONE", "weakening", "repeated", "covers", "Source", "_law_pot", "_law_take", "_law_of", "_law_cells", "_law_common", "_law_pair", "_law_plus", "_law_times", "_law_over", "_law_told", "_law_ratio"] : List Str) ++ (["_law_is_so", "_law_is_side_by_side", "_law_are_refused", "_law_pair_right"] : List Str)
theorem run (w : World) : HandSHeadRun.RunEqI RR (PySem.W.view RR.prog [37]) (hookT 6 ex ds tf) (obTT 6 ex ds tf) 6000 loose w := by
  unfold HandSHeadRun.RunEqI
  kernel_rfl
theorem law_fd {K : PySem.W.Frag} {mg : Str → Option Value} (T : Tx K mg) : ∀ (s : Shared) (v : Value), BindsTo s (fdOf K (He.ga K "law")) ⟨[v], []⟩ [("_law_script", v)] := by
  obtain ⟨oc, od, kV, doc, pm, an, cdv, ct, osl, e, hl, hc⟩ := T.f_law.f.ex
  have F : FunD K "law" "law" (defArgs s_law) (defBody s_law) (defScope s_law) [] [] (He.ga K "law") (fdOf K (He.ga K "law")) := ⟨⟨oc, od, .none, kV, doc, pm, an, cdv, ct, osl, e, hl, hc, .inl ⟨rfl, rfl⟩, .inl rfl⟩, T.f_law.f.kp⟩
  have b := FunD.bindsA (ps := ["_law_script"]) F fun _ _ _ _ _ _ us hl => match us, hl with | [_], _ => rfl
  exact fun s v => b s [v] rfl
end Lw
open PySem PySem.W PySem.Calls PyProof.Rows
theorem PySem.Challenge.cw_rangehunt_k02_sources_put_together_holds : PySem.Challenge.rw_rangehunt_k02_sources_put_together.Holds := by
  w_on; o_law
  refine HandSHeadRun.head_imp (r := OpenLaw.row PySem.Challenge.rw_rangehunt_k02_sources_put_together) (q := view (OpenLaw.row PySem.Challenge.rw_rangehunt_k02_sources_put_together).prog [37]) (H := My.hookT 6 Lw.ex Lw.ds Lw.tf) (ob := My.obTT 6 Lw.ex Lw.ds Lw.tf) (M := 6000) (loose := Lw.loose) (d := HandSHeadRun.topDef (OpenLaw.row PySem.Challenge.rw_rangehunt_k02_sources_put_together).prog 37) (kwd := []) My.obTT_eq
    Lw.run (by kernel_rfl) (by kernel_rfl) (by kernel_rfl) (by rfl) (by first | assumption | decide +kernel) (by decide +kernel) ⟨rfl, rfl, rfl, rfl, rfl, by decide +kernel⟩ ?hw ?hc
  case hw => w_witness2
  case hc =>
    refine My.walk_ofT (l := PySem.Challenge.rw_rangehunt_k02_sources_put_together) (n := 63) (k := 11) (x := "_law_script") rfl (by decide) (by kernel_rfl) ⟨rfl, by decide, by decide⟩ ?F
    intro w mg fa h Y G hmg0
    obtain ⟨K, KX, c⟩ := Y
    have T := Lw.tx KX G c.c
    have hmg : mg ("law" : PySem.Str) = some (.ref fa) := by
      have e : (HandSHeadRun.topDef (OpenLaw.row PySem.Challenge.rw_rangehunt_k02_sources_put_together).prog 37).name = ("law" : PySem.Str) := by kernel_rfl
      rw [← e]
      exact hmg0
    have e := hmg.symm.trans T.f_law.m
    cases e
    exact ⟨K, _, My.spLawT2 K, My.csOf K Lw.tf, KX, My.cs_all c.empty, My.cs_all c.out, My.cs_all fun p hp => PySem.W.codeHd_of_K KX (c.hd p hp), Lw.law_fd T, fun H a ns hn hT hS => ⟨a, ns, rfl, hS, hn, Lw.tabs_nil hT, fun _ => rfl⟩, fun base _ _ TB => Lw.ok_law T TB⟩

