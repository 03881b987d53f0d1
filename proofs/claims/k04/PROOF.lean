import PyProof.Rows.All
import Wide.All
import OpenK.AllK
import Wide.FinOn
import HandS.ForMost
import HandS.Exc
import HandS.TryOnly
import HandS.WordsExc
import HandS.Wide
import HandS.Gcd
import HandS.Property
import HandS.Conv
import HandS.HeadHook1
import HandS.HeadHook4
import HandS.HeadWalk
import HandS.HeadEnd
import HandS.Head2
import HandS.IsInst
import HandS.NoneIn
import HandS.Style
import KE.KOpsOwn
import HandS.Head3
import PySem.Challenge.RW_rangehunt_k04_whole_loads_are_sources_of
set_option Elab.async false
set_option linter.all false
set_option maxRecDepth 100000
set_option maxHeartbeats 0
/-! own layer, 1: one step at a time through a reading -/
namespace My
open PySem PySem.Spec PyProof.Rows L2
/-- a new tuple, a new list -/
def NewT (xs : List V) (H : Hp) (Q : VK) : Prop := xs.length ≤ sizeLine ∧ ∀ p, H p = none → Q (.ref p) (upd H p (.tup xs))
def NewL (xs : List V) (H : Hp) (Q : VK) : Prop := xs.length ≤ sizeLine ∧ ∀ p, H p = none → Q (.ref p) (upd H p (.lst xs))
section
variable {K : PySem.W.Frag} {σ : L2.St} {H H' : Hp} {ta tb tc te : TE} {t u : TS} {tt : TT} {D : Ends} {x y z v : V} {Q : VK} {QA : List V → Hp → Prop} {QB : Bool → Hp → Prop} {R : L2.St → Hp → Prop} {i : Nat}
theorem i_go {σ' : L2.St} (e : σ = σ') (h : t D σ' H) : t D σ H := e ▸ h
/-! ### statements -/
theorem i_seq (h : t { D with nx := u D } σ H) : tSeq t u D σ H := h
theorem i_next (h : D.nx σ H) : tNext D σ H := h
theorem i_asg {g : TG} (h : te σ H fun x H1 => g x σ H1 D.nx) : tAsg te g D σ H := h
theorem i_ret (h : te σ H D.rt) : tRet te D σ H := h
theorem i_retN (h : D.rt .non H) : tRetN D σ H := h
theorem i_drop (h : te σ H fun _ H1 => D.nx σ H1) : tDrop te D σ H := h
theorem i_if (h : tt σ H fun b H1 => if b = true then t D σ H1 else u D σ H1) : tIfS tt t u D σ H := h
theorem i_gname (h : R (σ.set i (some v)) H) : gName i v σ H R := h
theorem i_par {ta : TA} {j : Nat} (h : ta σ H fun vs H1 => ∃ v w, vs = [v, w] ∧ D.nx ((σ.set i (some v)).set j (some w)) H1) : tPar i j ta D σ H := h
/-! ### expressions -/
theorem i_var (e : σ[i]? = some (some v)) (h : Q v H) : tVar i σ H Q := ⟨v, e, h⟩
theorem i_c (h : Q v H) : tC v σ H Q := h
theorem i_op {r : R2} (h : ta σ H fun x H1 => tb σ H1 fun y H2 => r x y H2 Q) : tOp r ta tb σ H Q := h
theorem i_un {r : V → Hp → VK → Prop} (h : ta σ H fun x H1 => r x H1 Q) : tUn r ta σ H Q := h
theorem i_I0 {g : Int → Int → V} {a b : Int} (h : Q (g a b) H) : rI0 g (.int a) (.int b) H Q := ⟨a, b, rfl, rfl, h⟩
theorem i_I {C : Int → Int → Prop} {g : Int → Int → V} {a b : Int} (c : C a b) (h : Q (g a b) H) : rI C g (.int a) (.int b) H Q := ⟨a, b, rfl, rfl, c, h⟩
theorem i_U {g : Int → V} {a : Int} (h : Q (g a) H) : rU g (.int a) H Q := ⟨a, rfl, h⟩
theorem i_call {sp : Sp} {dvs : List V} {E : XK} {ta : TA} (h : ta σ H fun vs H1 => sp (vs ++ dvs) H1 Q E) : tCall sp dvs E ta σ H Q := h
theorem i_cb {r : List V → Hp → VK → Prop} {ta : TA} (h : ta σ H fun vs H1 => r vs H1 Q) : tCB r ta σ H Q := h
theorem i_nil (h : QA [] H) : tNil σ H QA := h
theorem i_cons {tr : TA} (h : te σ H fun x H1 => tr σ H1 fun xs H2 => QA (x :: xs) H2) : tCons te tr σ H QA := h
theorem i_tup {ta : TA} (h : ta σ H fun xs H1 => NewT xs H1 Q) : tTup ta σ H Q := h
theorem i_lst {ta : TA} (h : ta σ H fun xs H1 => NewL xs H1 Q) : tLst ta σ H Q := h
theorem i_ife (h : tt σ H fun c H1 => if c = true then ta σ H1 Q else tb σ H1 Q) : tIf tt ta tb σ H Q := h
theorem i_test (h : te σ H fun x H' => ∃ k, x = .bl k ∧ QB k H') : tTest te σ H QB := h
theorem i_tB (h : te σ H fun x H' => ∃ k, x = .bl k ∧ QB k H') : tB te σ H QB := h
theorem i_bl {k : Bool} (h : QB k H) : ∃ k', V.bl k = .bl k' ∧ QB k' H := ⟨k, rfl, h⟩
theorem i_not (h : tt σ H fun c H1 => QB (!c) H1) : tNot tt σ H QB := h
theorem i_and {tu : TT} (h : tt σ H fun c H1 => if c = true then tu σ H1 QB else QB false H1) : tAnd tt tu σ H QB := h
theorem i_or {tu : TT} (h : tt σ H fun c H1 => if c = true then QB true H1 else tu σ H1 QB) : tOr tt tu σ H QB := h
theorem i_andV (h : ta σ H fun x H1 => ∃ c, x = .bl c ∧ if c = true then tb σ H1 Q else Q (.bl false) H1) : tAndV ta tb σ H Q := h
theorem i_orV (h : ta σ H fun x H1 => ∃ c, x = .bl c ∧ if c = true then Q (.bl true) H1 else tb σ H1 Q) : tOrV ta tb σ H Q := h
theorem i_notV (h : ta σ H fun x H1 => ∃ c, x = .bl c ∧ Q (.bl (!c)) H1) : tNotV ta σ H Q := h
theorem i_blv {k : Bool} {P : Bool → Prop} (h : P k) : ∃ c, V.bl k = .bl c ∧ P c := ⟨k, rfl, h⟩
theorem i_fld {a C dx : Addr} {fs : List (Str × V)} {f : Str} (h : ta σ H fun x H1 => ∃ a C dx fs v, x = .ref a ∧ H1 a = some (.ins C dx fs) ∧ Cls K C ∧ NoAttr K C f ∧ fs.lookup f = some v ∧ Q v H1) : tFld K ta f σ H Q := h
theorem i_two {P : V → V → Prop} (h : P x y) : ∃ v w, [x, y] = [v, w] ∧ P v w := ⟨x, y, rfl, h⟩
/-- ints by the one-argument conversions -/
theorem i_ixL {p : Addr} {xs : List V} {n : Int} (hl : SqL K H p xs) (ha : atI xs n = some v) (h : Q v H) : rIxL K (.ref p) (.int n) H Q := ⟨p, xs, n, v, rfl, rfl, hl, ha, h⟩
theorem i_ixT {p : Addr} {xs : List V} {n : Int} (hl : SqT K H p xs) (ha : atI xs n = some v) (h : Q v H) : rIxT K (.ref p) (.int n) H Q := ⟨p, xs, n, v, rfl, rfl, hl, ha, h⟩
end
/-! ### built-in calls by name -/
section
variable {X : Cx}
def rInt1 : List V → Hp → VK → Prop := fun xs H Q => (∃ i, xs = [.int i] ∧ Q (.int i) H) ∨ ∃ k, xs = [.bl k] ∧ Q (.int (if k then 1 else 0)) H
theorem cr_int1 : CallR X (.type "int") rInt1 := call_int1
def rAbs : List V → Hp → VK → Prop := fun xs H Q => ∃ i, xs = [.int i] ∧ Q (.int (if i < 0 then -i else i)) H
theorem cr_abs : CallR X (.builtin "abs") rAbs := call_abs
def rMax2 : List V → Hp → VK → Prop := fun xs H Q => ∃ i j, xs = [.int i, .int j] ∧ Q (.int (if j > i then j else i)) H
theorem cr_max2 (hc : X.calm = true) : CallR X (.builtin "max") rMax2 := call_max2 hc
def rMin2 : List V → Hp → VK → Prop := fun xs H Q => ∃ i j, xs = [.int i, .int j] ∧ Q (.int (if j < i then j else i)) H
theorem cr_min2 (hc : X.calm = true) : CallR X (.builtin "min") rMin2 := call_min2 hc
def rLenA (K : PySem.W.Frag) : List V → Hp → VK → Prop := fun xs H Q => ∃ x n, xs = [x] ∧ LenV K x H n ∧ Q (.int n) H
theorem cr_len : CallR X (.builtin "len") (rLenA X.K) := call_len
def rListOf (K : PySem.W.Frag) : List V → Hp → VK → Prop := fun xs H Q => ∃ p ys, xs = [.ref p] ∧ (SqL K H p ys ∨ SqT K H p ys) ∧ ∀ l, H l = none → Q (.ref l) (upd H l (.lst ys))
theorem cr_listOf : CallR X (.type "list") (rListOf X.K) := call_list_of
/-- a power of two ints -/
def CPowW (i j : Int) : Prop := 0 ≤ j ∧ (Builtin.Int.intBits i : Int) * j ≤ 2 ^ 27
theorem op_powW : OpR X (binaryOp .Pow) (rI CPowW fun i j => .int (i ^ j.toNat)) := opI fun _ _ _ _ _ _ _ hc q => pow_int hc.1 hc.2 q
end
section
variable {K : PySem.W.Frag} {H : Hp} {Q : VK} {v : V} {xs : List V}
theorem i_int1 {a : Int} (h : Q (.int a) H) : rInt1 [.int a] H Q := .inl ⟨a, rfl, h⟩
theorem i_int1b {k : Bool} (h : Q (.int (if k then 1 else 0)) H) : rInt1 [.bl k] H Q := .inr ⟨k, rfl, h⟩
theorem i_abs {a : Int} (h : Q (.int (if a < 0 then -a else a)) H) : rAbs [.int a] H Q := ⟨a, rfl, h⟩
theorem i_max2 {a b : Int} (h : Q (.int (if b > a then b else a)) H) : rMax2 [.int a, .int b] H Q := ⟨a, b, rfl, h⟩
theorem i_min2 {a b : Int} (h : Q (.int (if b < a then b else a)) H) : rMin2 [.int a, .int b] H Q := ⟨a, b, rfl, h⟩
theorem i_lenL {p : Addr} (hl : SqL K H p xs) (h : Q (.int xs.length) H) : rLenA K [.ref p] H Q := ⟨.ref p, xs.length, rfl, .inl ⟨xs, hl, rfl⟩, h⟩
theorem i_lenT {p : Addr} (hl : SqT K H p xs) (h : Q (.int xs.length) H) : rLenA K [.ref p] H Q := ⟨.ref p, xs.length, rfl, .inr ⟨xs, hl, rfl⟩, h⟩
theorem i_ixsL {p : Addr} {n : Int} (hl : SqL K H p xs) (ha : atI xs n = some v) (h : Q v H) : rIx K (.ref p) (.int n) H Q := .inl ⟨p, xs, n, v, rfl, rfl, hl, ha, h⟩
theorem i_ixsT {p : Addr} {n : Int} (hl : SqT K H p xs) (ha : atI xs n = some v) (h : Q v H) : rIx K (.ref p) (.int n) H Q := .inr (.inl ⟨p, xs, n, v, rfl, rfl, hl, ha, h⟩)
/-! ### new objects: the heap behind is a new letter -/
theorem i_new {o : HO} (h : ∀ p H1, Same H H1 → H p = none → H1 p = some o → Q (.ref p) H1) : ∀ p, H p = none → Q (.ref p) (upd H p o) := fun p hp =>
  h p _ (fun b u e => by rw [upd_ne (ne_of_none e hp)]; exact e) hp upd_same
theorem i_szT (z : xs.length ≤ sizeLine) (h : ∀ p H1, Same H H1 → H p = none → H1 p = some (.tup xs) → Q (.ref p) H1) : NewT xs H Q := ⟨z, i_new h⟩
theorem i_szL (z : xs.length ≤ sizeLine) (h : ∀ p H1, Same H H1 → H p = none → H1 p = some (.lst xs) → Q (.ref p) H1) : NewL xs H Q := ⟨z, i_new h⟩
/-! ### frames -/
theorem _root_.L2.Same.seqT {K : PySem.W.Frag} {a : Addr} {H H' : Hp} {xs : List V} (e : L2.Same H H') (h : SqT K H a xs) : SqT K H' a xs := by
  rcases h with (h | ⟨o, h⟩) | h
  · exact .inl (.inl (e _ _ h))
  · exact .inl (.inr ⟨o, e _ _ h⟩)
  · exact .inr h

/-- all but what stands at p is as it was -/
def But (p : Addr) (H H' : Hp) : Prop := ∀ b o, b ≠ p → H b = some o → H' b = some o
theorem _root_.L2.Same.but {p : Addr} {H H' : Hp} (s : L2.Same H H') : But p H H' := fun b o _ e => s b o e
theorem But.refl {p : Addr} (H : Hp) : But p H H := fun _ _ _ h => h
theorem But.trans {p : Addr} {H H1 H2 : Hp} (a : But p H H1) (b : But p H1 H2) : But p H H2 := fun c o n h => b c o n (a c o n h)
theorem But.upd {p : Addr} {H : Hp} {o : HO} : But p H (upd H p o) := fun b u n h => by rw [upd_ne n]; exact h
theorem But.seq {K : PySem.W.Frag} {p a : Addr} {H H' : Hp} {xs : List V} (e : But p H H') (n : a ≠ p) (h : SqL K H a xs) : SqL K H' a xs := by
  rcases h with (h | ⟨o, h⟩) | h
  · exact .inl (.inl (e _ _ n h))
  · exact .inl (.inr ⟨o, e _ _ n h⟩)
  · exact .inr h
theorem But.seqT {K : PySem.W.Frag} {p a : Addr} {H H' : Hp} {xs : List V} (e : But p H H') (n : a ≠ p) (h : SqT K H a xs) : SqT K H' a xs := by
  rcases h with (h | ⟨o, h⟩) | h
  · exact .inl (.inl (e _ _ n h))
  · exact .inl (.inr ⟨o, e _ _ n h⟩)
  · exact .inr h
theorem But.free {p l : Addr} {H H' : Hp} (e : But p H H') (n : l ≠ p) (h : H' l = none) : H l = none := by
  cases q : H l with
  | none => rfl
  | some o =>
    rw [e l o n q] at h
    cases h
theorem atI_mem {xs : List V} {i : Int} (h0 : 0 ≤ i) (h1 : i < (xs.length : Int)) : ∃ v, atI xs i = some v ∧ v ∈ xs := by
  obtain ⟨j, rfl⟩ : ∃ j : Nat, i = (j : Int) := ⟨i.toNat, by omega⟩
  have hj : j < xs.length := by omega
  exact ⟨xs[j], atI_nat (List.getElem?_eq_getElem hj), List.getElem_mem hj⟩
theorem i_sub {to ti : TE} {t : TSet} {σ : L2.St} {R : L2.St → Hp → Prop} (h : to σ H fun o H1 => ti σ H1 fun i H2 => t o i v H2 fun H3 => R σ H3) : gSub to ti t v σ H R := h
theorem i_setL {p : Addr} {n : Int} {j : Nat} {R : Hp → Prop} (hl : H p = some (.lst xs)) (hj : ixN xs.length n = some j) (h : ∀ H1, But p H H1 → H1 p = some (.lst (xs.set j v)) → R H1) : rSetL (.ref p) (.int n) v H R :=
  ⟨p, xs, n, j, rfl, rfl, hl, hj, h _ But.upd upd_same⟩
theorem i_bm {T : String} {r : V → List V → Hp → VK → Prop} {to : TE} {t : TA} {σ : L2.St} (h : to σ H fun x H1 => tyV K T x H1 ∧ t σ H1 fun xs H2 => r x xs H2 Q) : tBM K T r to t σ H Q := h
theorem i_bm0 {T : String} {r : V → List V → Hp → VK → Prop} {to : TE} {σ : L2.St} (h : to σ H fun x H1 => tyV K T x H1 ∧ r x [] H1 Q) : tBM0 K T r to σ H Q := h
theorem i_tyL {p : Addr} {P : Prop} (hl : SqL K H p xs) (h : P) : tyV K "list" (.ref p) H ∧ P := ⟨.inl ⟨rfl, xs, hl⟩, h⟩
theorem i_app {l : Addr} {y : V} (hl : H l = some (.lst xs)) (hz : xs.length < sizeLine) (h : ∀ H1, But l H H1 → H1 l = some (.lst (xs ++ [y])) → Q .non H1) : rAppend (.ref l) [y] H Q := ⟨l, xs, y, rfl, rfl, hl, hz, h _ But.upd upd_same⟩
def NewR (a b : Int) (H : Hp) (Q : VK) : Prop := RgOk a b ∧ ∀ q, H q = none → Q (.ref q) (upd H q (.lst (rgV a b)))
theorem i_lstRg {t : L2.St → Hp → (Int → Int → Hp → Prop) → Prop} {σ : L2.St} (h : t σ H fun a b H1 => NewR a b H1 Q) : tLstRg t σ H Q := h
theorem i_rg1 {ta : TE} {σ : L2.St} {QQ : Int → Int → Hp → Prop} (h : ta σ H fun x H1 => ∃ n, x = .int n ∧ QQ 0 n H1) : tRg1 ta σ H QQ := h
theorem i_in {n : Int} {P : Int → Prop} (h : P n) : ∃ m, V.int n = .int m ∧ P m := ⟨n, rfl, h⟩
theorem i_newR {a b : Int} (z : RgOk a b) (h : ∀ p H1, Same H H1 → H p = none → H1 p = some (.lst (rgV a b)) → Q (.ref p) H1) : NewR a b H Q := ⟨z, i_new h⟩
/-- both ways of an expression's if, joined by what is told of the value -/
theorem i_join {c : Bool} {ta tb : TE} {σ : L2.St} (Pr : V → Prop) (h1 : c = true → ∀ Q : VK, (∀ v, Pr v → Q v H) → ta σ H Q) (h2 : c = false → ∀ Q : VK, (∀ v, Pr v → Q v H) → tb σ H Q) (h : ∀ v, Pr v → Q v H) : if c = true then ta σ H Q else tb σ H Q := by
  cases c with
  | true => exact h1 rfl Q h
  | false => exact h2 rfl Q h
theorem ite_nt {A B : Prop} (h : B) : if (!true) = true then A else B := h
theorem ite_nf {A B : Prop} (h : A) : if (!false) = true then A else B := h
theorem i_gcd {a b : Int} (h : Q (.int ((Nat.gcd a.natAbs b.natAbs : Nat) : Int)) H) : rGcd [.int a, .int b] H Q := ⟨a, b, rfl, h⟩
theorem dec_intV {a b : Int} : decide (V.int a = V.int b) = decide (a = b) := by
  rw [decide_eq_decide]
  exact ⟨fun z => V.int.inj z, fun z => z ▸ rfl⟩
theorem i_eqI {a b : Int} (h : Q (.bl (decide (a = b))) H) : rEq (.int a) (.int b) H Q := ⟨rfl, by rw [dec_intV]; exact h⟩
theorem i_neI {a b : Int} (h : Q (.bl (!decide (a = b))) H) : rNe (.int a) (.int b) H Q := ⟨rfl, by rw [dec_intV]; exact h⟩
theorem i_eqT {a b : Int} (e : a = b) (h : Q (.bl true) H) : rEq (.int a) (.int b) H Q := i_eqI (by rw [decide_eq_true e]; exact h)
theorem i_eqF {a b : Int} (e : ¬ a = b) (h : Q (.bl false) H) : rEq (.int a) (.int b) H Q := i_eqI (by rw [decide_eq_false e]; exact h)
theorem i_neF {a b : Int} (e : a = b) (h : Q (.bl false) H) : rNe (.int a) (.int b) H Q := i_neI (by rw [decide_eq_true e]; exact h)
theorem i_neT {a b : Int} (e : ¬ a = b) (h : Q (.bl true) H) : rNe (.int a) (.int b) H Q := i_neI (by rw [decide_eq_false e]; exact h)
/-- a comparison of ints whose answer is known -/
theorem i_leT {a b : Int} {p : Int → Int → Bool} (e : p a b = true) (h : Q (.bl true) H) : rI0 (fun i j => V.bl (p i j)) (.int a) (.int b) H Q := ⟨a, b, rfl, rfl, by show Q (V.bl (p a b)) H; rw [e]; exact h⟩
theorem i_leF {a b : Int} {p : Int → Int → Bool} (e : p a b = false) (h : Q (.bl false) H) : rI0 (fun i j => V.bl (p i j)) (.int a) (.int b) H Q := ⟨a, b, rfl, rfl, by show Q (V.bl (p a b)) H; rw [e]; exact h⟩
theorem ite_d {c A B : Prop} [Decidable c] (hc : c) (h : A) : if decide c = true then A else B := by rw [decide_eq_true hc]; exact iteT h
theorem ite_dn {c A B : Prop} [Decidable c] (hc : ¬ c) (h : B) : if decide c = true then A else B := by rw [decide_eq_false hc]; exact iteF h
theorem ite_nd {c A B : Prop} [Decidable c] (hc : c) (h : B) : if (!decide c) = true then A else B := by rw [decide_eq_true hc]; exact iteF h
theorem ite_ndn {c A B : Prop} [Decidable c] (hc : ¬ c) (h : A) : if (!decide c) = true then A else B := by rw [decide_eq_false hc]; exact iteT h
theorem ite_b {b : Bool} {A B : Prop} (h1 : b = true → A) (h2 : b = false → B) : if b = true then A else B := by
  cases b with
  | true => exact h1 rfl
  | false => exact h2 rfl
theorem ite_nb {b : Bool} {A B : Prop} (h1 : b = false → A) (h2 : b = true → B) : if (!b) = true then A else B := by
  cases b with
  | true => exact h2 rfl
  | false => exact h1 rfl
end
end My

/-! own layer, 2: where defs, methods, properties, operators stand; their calls -/
namespace My
open PySem PySem.Spec PyProof.Rows L2
def fdOf (K : PySem.W.Frag) (a : Addr) : FuncData := match K.lookup a with
  | some ⟨_, _, .func fd, _⟩ => fd
  | _ => ⟨"", "", ⟨[], [], none, [], [], none, []⟩, .stmts [], ⟨.function, [], false, false, []⟩, 0, [], .none, .none, .none, .none, none, .none, .none, 0⟩
/-- the getter of the property at p -/
def gtOf (K : PySem.W.Frag) (p : Addr) : Addr := match PySem.W.recIn K p "property" with
  | some (.ref g :: _) => g
  | _ => 0
/-- a module's def -/
structure GFn (K : PySem.W.Frag) (mg : Str → Option Value) (x : Str) (st : Stmt) (ps : List Str) : Prop where
  m : mg x = some (.ref (He.ga K x))
  f : Fun K x x st (He.ga K x) (fdOf K (He.ga K x))
  b : L2.Binds K (fdOf K (He.ga K x)) ps []
/-- a method of the class at C -/
structure GMe (K : PySem.W.Frag) (C : Addr) (m qual : Str) (st : Stmt) (ps : List Str) : Prop where
  h : Meth K C m (He.ma K C m)
  f : Fun K m qual st (He.ma K C m) (fdOf K (He.ma K C m))
  b : L2.Binds K (fdOf K (He.ma K C m)) ps []
/-- a property -/
structure GPr (K : PySem.W.Frag) (C : Addr) (m qual : Str) (st : Stmt) : Prop where
  p : PropOf K C m (He.ma K C m) (gtOf K (He.ma K C m))
  f : Fun K m qual st (gtOf K (He.ma K C m)) (fdOf K (gtOf K (He.ma K C m)))
  b : L2.Binds K (fdOf K (gtOf K (He.ma K C m))) ["self"] []
/-- a class that is made -/
structure GMk (K : PySem.W.Frag) (mg : Str → Option Value) (x : Str) : Prop where
  m : mg x = some (.ref (He.ga K x))
  k : Mk K (He.ga K x) (He.ma K (He.ga K x) "__init__")
abbrev FnAt (P : Program) (w : World) (K : PySem.W.Frag) (mg : Str → Option Value) (base : Heap) (CX : CXT) (k : Nat) (a : Addr) (ps : List Str) (sp : Sp) : Prop := FnOk P w K mg base CX k a (fdOf K a) ps sp
section
variable {X : Cx} {CX : CXT} {k : Nat} {x m qual : Str} {st : Stmt} {ps : List Str} {sp : Sp} {p pos apos : Pos} {e o : Expr} {es : List Expr} {t : TA} {ta : TE} {C : Addr}
theorem pe_fn (g : GFn X.K X.mg x st ps) (F : FnAt X.prog X.w X.K X.mg X.base CX k (He.ga X.K x) ps sp) (hr : Room k X.A) (ha : PA X (e :: es) t) (hx : Passes CX X E0 := by first | exact pass0 | exact passL) (hg : Gl X x := by rfl)
    (hdb : (x == ("__debug__" : Str)) = false := by decide) (he : starEach (e :: es) X.env = (false, eval e X.env) :: starEach es X.env := by rfl) (hpl : (backTo pos (starEach es X.env)).any (·.1) = false := by rfl) :
    PE X (.Call (.Name x p) (e :: es) [] pos) (tCall sp [] E0 t) := pe_call F hr hg g.m g.f.kp g.b .nil hx ha hdb he hpl
theorem pe_fnX {E : XK} (g : GFn X.K X.mg x st ps) (F : FnAt X.prog X.w X.K X.mg X.base CX k (He.ga X.K x) ps sp) (hr : Room k X.A) (hx : Passes CX X E) (ha : PA X (e :: es) t) (hg : Gl X x := by rfl)
    (hdb : (x == ("__debug__" : Str)) = false := by decide) (he : starEach (e :: es) X.env = (false, eval e X.env) :: starEach es X.env := by rfl) (hpl : (backTo pos (starEach es X.env)).any (·.1) = false := by rfl) :
    PE X (.Call (.Name x p) (e :: es) [] pos) (tCall sp [] E t) := pe_call F hr hg g.m g.f.kp g.b .nil hx ha hdb he hpl
theorem pe_me {pl : Sem Bool} (c : Cls X.K C) (g : GMe X.K C m qual st ps) (F : FnAt X.prog X.w X.K X.mg X.base CX k (He.ma X.K C m) ps sp) (hr : Room k X.A) (ho : PE X o ta) (ha : PA X (e :: es) t) (hx : Passes CX X E0 := by first | exact pass0 | exact passL)
    (hst : starEach (e :: es) X.env = (false, eval e X.env) :: starEach es X.env := by rfl) (hpl : (backTo pos (starEach es X.env)).any (·.1) = false := by rfl)
    (ht : eval (.Call (.Attribute o m apos) (e :: es) [] pos) X.env = (do
      let ov ← eval o X.env
      standAt apos.atName
      let (f, first) ← holding [ov] (getMethod ov m pl)
      callWith pos f first (backTo pos (starEach (e :: es) X.env)) (backToKw pos (keywordEach [] X.env))) := by rfl) :
    PE X (.Call (.Attribute o m apos) (e :: es) [] pos) (tMeth C m sp [] E0 ta t) := pe_meth ho c g.h F hr g.b .nil hx ha hst hpl ht
theorem pe_me0 {pl : Sem Bool} (c : Cls X.K C) (g : GMe X.K C m qual st ps) (F : FnAt X.prog X.w X.K X.mg X.base CX k (He.ma X.K C m) ps sp) (hr : Room k X.A) (ho : PE X o ta) (hx : Passes CX X E0 := by first | exact pass0 | exact passL)
    (ht : eval (.Call (.Attribute o m apos) [] [] pos) X.env = (do
      let ov ← eval o X.env
      standAt apos.atName
      let (f, first) ← holding [ov] (getMethod ov m pl)
      callWith pos f first (backTo pos (starEach [] X.env)) (backToKw pos (keywordEach [] X.env))) := by rfl) :
    PE X (.Call (.Attribute o m apos) [] [] pos) (tMeth C m sp [] E0 ta tNil) := pe_meth0 ho c g.h F hr g.b .nil hx ht
theorem pe_pr (c : Cls X.K C) (g : GPr X.K C m qual st) (F : FnAt X.prog X.w X.K X.mg X.base CX k (gtOf X.K (He.ma X.K C m)) ["self"] sp) (hr : Room (k + 1) X.A) (ho : PE X o ta) (hx : Passes CX X.nox E0 := by first | exact pass0 | exact passL)
    (hab : attributeBase o m X.env (eval o X.env) = eval o X.env := by rfl) : PE X (.Attribute o m pos) (tProp C sp [] E0 ta) := pe_prop ho c g.p F hr g.b .nil hx hab
theorem pe_mk (g : GMk X.K X.mg x) {fm : GMe X.K (He.ga X.K x) "__init__" qual st ps} (F : FnAt X.prog X.w X.K X.mg X.base CX k (He.ma X.K (He.ga X.K x) "__init__") ps sp) (hr : Room (k + 1) X.A) (ha : PA X (e :: es) t) (hx : Passes CX X E0 := by first | exact pass0 | exact passL) (hg : Gl X x := by rfl)
    (hdb : (x == ("__debug__" : Str)) = false := by decide) (he : starEach (e :: es) X.env = (false, eval e X.env) :: starEach es X.env := by rfl) (hpl : (backTo pos (starEach es X.env)).any (·.1) = false := by rfl) :
    PE X (.Call (.Name x p) (e :: es) [] pos) (tMake (He.ga X.K x) sp [] E0 t) := pe_make g.k F hr hg g.m fm.b .nil hx ha hdb he hpl
theorem pe_mkK {K : PySem.W.Frag} (hK : X.K = K) (g : GMk K X.mg x) {fm : GMe K (He.ga K x) "__init__" qual st ps} (F : FnAt X.prog X.w K X.mg X.base CX k (He.ma K (He.ga K x) "__init__") ps sp) (hr : Room (k + 1) X.A) (ha : PA X (e :: es) t) (hx : Passes CX X E0 := by first | exact pass0 | exact passL) (hg : Gl X x := by rfl)
    (hdb : (x == ("__debug__" : Str)) = false := by decide) (he : starEach (e :: es) X.env = (false, eval e X.env) :: starEach es X.env := by rfl) (hpl : (backTo pos (starEach es X.env)).any (·.1) = false := by rfl) :
    PE X (.Call (.Name x p) (e :: es) [] pos) (tMake (He.ga K x) sp [] E0 t) := by
  subst hK
  exact pe_mk g (fm := fm) F hr ha hx hg hdb he hpl
/-- what an own operator asks of the class -/
structure GOp (K : PySem.W.Frag) (C : Addr) (m qual : Str) (st : Stmt) : Prop where
  at_ : PySem.W.findIn K (.ref C) m = some (some (.ref (He.ma K C m)))
  fn : PySem.W.isFn K (.ref (He.ma K C m)) = true
  f : Fun K m qual st (He.ma K C m) (fdOf K (He.ma K C m))
  b : L2.Binds K (fdOf K (He.ma K C m)) ["self", "other"] []
/-- x op y of two instances of one class: the method's promise -/
def rOwn (C : Addr) (sp : Sp) : R2 := fun x y H Q => ∃ a b dx dy fs gs, x = .ref a ∧ y = .ref b ∧ H a = some (.ins C dx fs) ∧ H b = some (.ins C dy gs) ∧ sp [x, y] H Q E0
theorem back_of {pins : List (Addr × Obj)} {σ : L2.St} {Q : VK} {u : Value} {s : Shared} (h : EP X pins σ Q u s) : PySem.W.CmpBack (EP X pins σ Q) u s := by
  obtain ⟨v, H', I, r, q⟩ := h
  cases u with
  | notImplemented =>
    exfalso
    cases v with
    | non => cases r
    | bl _ => cases r
    | int _ => obtain ⟨t, z⟩ := r; cases z
    | str _ => obtain ⟨t, z⟩ := r; cases z
    | byt _ => obtain ⟨t, z⟩ := r; cases z
    | flt _ => obtain ⟨t, z⟩ := r; cases z
    | ref _ => cases r
    | ty _ => cases r
  | _ => exact ⟨v, H', I, r, q⟩
theorem op_own {op : Operator} (g : GOp X.K C m qual st) (hm : PySem.dunder op.info.2 = m) (F : FnAt X.prog X.w X.K X.mg X.base CX k (He.ma X.K C m) ["self", "other"] sp) (hr : Room k X.A) (hc : PySem.W.selfFirst X.K C = true)
    (hx : Passes CX X E0 := by first | exact pass0 | exact passL) : OpR X (binaryOp op) (rOwn C sp) := by
  intro pins s σ H x y v u Q I rx ry h
  obtain ⟨a, b, dx, dy, fs, gs, rfl, rfl, ha, hb, hsp⟩ := h
  cases rx
  cases ry
  obtain ⟨mA, J, _⟩ := ins_get I.hok ha
  obtain ⟨mB, J', _⟩ := ins_get I.hok hb
  obtain ⟨od, J, _⟩ := J.look
  obtain ⟨od', J', _⟩ := J'.look
  obtain ⟨mm, hF⟩ := I.fr
  subst hm
  refine PySem.W.binop_K hF I.ok.mod.kin J J'.type hc g.at_ g.fn ?_
  exact thn (run_fn (vs := [.ref a, .ref b]) F hr g.b .nil hx I (.cons rfl (.cons rfl .nil)) hsp) fun r s' q => back_of q
theorem cm_own {op : CmpOp} (g : GOp X.K C m qual st) (hm : (PySem.cmpInfo op).2.1 = m) (hop : ∀ v u, compareOp op v u = richCompare op v u) (F : FnAt X.prog X.w X.K X.mg X.base CX k (He.ma X.K C m) ["self", "other"] sp) (hr : Room k X.A)
    (hx : Passes CX X E0 := by first | exact pass0 | exact passL) : OpR X (compareOp op) (rOwn C sp) := by
  intro pins s σ H x y v u Q I rx ry h
  obtain ⟨a, b, dx, dy, fs, gs, rfl, rfl, ha, hb, hsp⟩ := h
  cases rx
  cases ry
  obtain ⟨mA, J, _⟩ := ins_get I.hok ha
  obtain ⟨mB, J', _⟩ := ins_get I.hok hb
  obtain ⟨od, J, _⟩ := J.look
  obtain ⟨od', J', _⟩ := J'.look
  obtain ⟨mm, hF⟩ := I.fr
  subst hm
  rw [hop]
  refine PySem.W.cmp_K (tb := .ref C) hr.units0 hF I.ok.mod.kin J J'.type (by simp [PySem.W.notFirst]) g.at_ g.fn ?_
  exact thn (run_fn (vs := [.ref a, .ref b]) F hr g.b .nil hx I (.cons rfl (.cons rfl .nil)) hsp) fun r s' q => back_of q
end
end My

/-! own layer: sizes -/
namespace My
open PySem PySem.Spec PyProof.Rows L2
theorem log_lt {n k : Nat} (hk : 0 < k) (h : n < 2 ^ k) : n.log2 < k := PySem.Flt.log2_lt_of hk h
theorem mulS {i j : Int} (h1 : -1000000000000000000000000000000 < i) (h2 : i < 1000000000000000000000000000000) (h3 : -1000000000000000000000000000000 < j) (h4 : j < 1000000000000000000000000000000) : CMulW i j :=
  wide_mul (a := 100) (b := 100) (Nat.lt_of_lt_of_le (m := 1000000000000000000000000000000) (by omega) (by decide +kernel)) (Nat.lt_of_lt_of_le (m := 1000000000000000000000000000000) (by omega) (by decide +kernel)) (by decide) (by decide) (by decide)
theorem divS {i j : Int} (h3 : 0 < j) (h4 : j < 1000000000000000000000000000000) : CDivW i j :=
  wide_div (b := 100) h3 (Nat.lt_of_lt_of_le (m := 1000000000000000000000000000000) (by omega) (by decide +kernel)) (by decide) (by decide)
theorem bits_le (x : Int) : Builtin.Int.intBits x ≤ x.natAbs.log2 + 1 := by
  unfold Builtin.Int.intBits
  split <;> omega
theorem pow3S {i : Int} (h1 : -1000000000000000000000000000000 < i) (h2 : i < 1000000000000000000000000000000) : CPowW i 3 := by
  have h : i.natAbs.log2 < 100 := log_lt (by decide) (Nat.lt_of_lt_of_le (m := 1000000000000000000000000000000) (by omega) (by decide +kernel))
  have b := bits_le i
  refine ⟨by decide, ?_⟩
  have e : (2 : Int) ^ 27 = 134217728 := by decide
  rw [e]
  omega
theorem powL {i j : Int} (h : decide (0 ≤ j ∧ (Builtin.Int.intBits i : Int) * j ≤ 134217728) = true) : CPowW i j := by
  have h := of_decide_eq_true h
  exact ⟨h.1, h.2⟩
/-- k * c * c + d of a draw's number -/
theorem pow3Q {b k c d : Int} (hb : 0 ≤ b) (hb2 : b < 2305843009213693952) (hk : 0 ≤ k) (hk2 : k ≤ 1000000) (hc : 0 ≤ c) (hc2 : c ≤ 1000001) (hd : 0 ≤ d) (hd2 : d ≤ 1000000) : CPowW (b + k * c * c + d) 3 := by
  have h1 : 0 ≤ k * c := Int.mul_nonneg hk hc
  have h2 : k * c ≤ 1000000 * 1000001 := Int.mul_le_mul hk2 hc2 hc (by decide)
  have h3 : 0 ≤ k * c * c := Int.mul_nonneg h1 hc
  have h4 : k * c * c ≤ 1000000 * 1000001 * 1000001 := Int.mul_le_mul h2 hc2 hc (by decide)
  exact pow3S (by omega) (by omega)
section
variable {H : Hp} {Q : VK}
/-- a remainder, told by its bounds alone -/
theorem i_modQ {a j : Int} (hj : 0 < j) (h : ∀ m : Int, 0 ≤ m → m < j → Q (.int m) H) : rI (fun _ j => 0 < j) (fun i j => V.int (i % j)) (.int a) (.int j) H Q :=
  ⟨a, j, rfl, rfl, hj, h _ (Int.emod_nonneg _ (by omega)) (Int.emod_lt_of_pos _ hj)⟩
end
theorem pot_lt {m : Int} (h0 : 0 ≤ m) (h : m < (10 ^ Int.toNat 60) ^ Int.toNat 5) : m.natAbs < 2 ^ 1000 := by
  have e : ((10 : Int) ^ Int.toNat 60) ^ Int.toNat 5 < ((2 ^ 1000 : Nat) : Int) := by decide +kernel
  have h2 : m < ((2 ^ 1000 : Nat) : Int) := Int.lt_trans h e
  generalize 2 ^ 1000 = z at h2 ⊢
  omega
theorem mul01 {m : Int} {k : Bool} (h : m.natAbs < 2 ^ 1000) : CMulW m (if k = true then 1 else 0) := wide_mul (a := 1000) (b := 1) h (by cases k <;> decide) (by decide) (by decide) (by decide)
theorem mul01_nn {m : Int} {k : Bool} (h : 0 ≤ m) : 0 ≤ m * (if k = true then 1 else 0) := by cases k <;> simp [h]
/-! ### ratios are rationals -/
theorem rat_nd (a : Int) (b : Nat) (hb : 0 < b) : ((a : Rat) / (b : Rat)).num = a / ((Nat.gcd a.natAbs b : Nat) : Int) ∧ ((a : Rat) / (b : Rat)).den = b / Nat.gcd a.natAbs b := by
  have h : (a : Rat) / (b : Rat) = mkRat a b := (Rat.mkRat_eq_div a b).symm
  rw [h]
  have hz : b ≠ 0 := by omega
  unfold mkRat
  rw [dif_neg hz, Rat.normalize_eq hz]
  exact ⟨rfl, rfl⟩
theorem rat_ndI (a b : Int) (hb : 0 < b) : ((a : Rat) / (b : Rat)).num = a / ((Nat.gcd a.natAbs b.natAbs : Nat) : Int) ∧ (((a : Rat) / (b : Rat)).den : Int) = b / ((Nat.gcd a.natAbs b.natAbs : Nat) : Int) := by
  obtain ⟨n, rfl⟩ : ∃ n : Nat, b = (n : Int) := ⟨b.toNat, by omega⟩
  have h := rat_nd a n (by omega)
  have e : ((n : Int) : Rat) = (n : Rat) := by norm_cast
  rw [e, h.1, h.2]
  simp
/-- a ratio's pair -/
abbrev rat (q : Rat) : List V := [.int q.num, .int (q.den : Int)]
theorem rat_div {a b : Int} (hb : 0 < b) : ([V.int (a / ((Nat.gcd a.natAbs b.natAbs : Nat) : Int)), V.int (b / ((Nat.gcd a.natAbs b.natAbs : Nat) : Int))] : List V) = rat ((a : Rat) / (b : Rat)) := by
  obtain ⟨h1, h2⟩ := rat_ndI a b hb
  unfold rat
  rw [h1, h2]
theorem gcd_div {a b : Int} (hb : 0 < b) (sb : b.natAbs < 2 ^ 4000) : CDivW a ((Nat.gcd a.natAbs b.natAbs : Nat) : Int) ∧ CDivW b ((Nat.gcd a.natAbs b.natAbs : Nat) : Int) := by
  have h1 : 0 < Nat.gcd a.natAbs b.natAbs := Nat.gcd_pos_of_pos_right _ (by omega)
  have h2 : Nat.gcd a.natAbs b.natAbs ≤ b.natAbs := Nat.le_of_dvd (by omega) (Nat.gcd_dvd_right _ _)
  have h3 : ((Nat.gcd a.natAbs b.natAbs : Nat) : Int).natAbs < 2 ^ 4000 := by rw [Int.natAbs_natCast]; exact Nat.lt_of_le_of_lt h2 sb
  exact ⟨wide_div (b := 4000) (by omega) h3 (by decide) (by decide), wide_div (b := 4000) (by omega) h3 (by decide) (by decide)⟩
end My

/-! own layer: ratios as rationals, core Lean alone -/
namespace My
/-- both parts below 2 ^ k -/
def Sz (k : Nat) (q : Rat) : Prop := q.num.natAbs < 2 ^ k ∧ q.den < 2 ^ k
theorem Sz.mono {j k : Nat} {q : Rat} (h : Sz j q) (hk : j ≤ k) : Sz k q := ⟨Nat.lt_of_lt_of_le h.1 (Nat.pow_le_pow_right (by decide) hk), Nat.lt_of_lt_of_le h.2 (Nat.pow_le_pow_right (by decide) hk)⟩
theorem sz_div {a : Int} {b k : Nat} (hb : 0 < b) (h1 : a.natAbs < 2 ^ k) (h2 : b < 2 ^ k) : Sz k ((a : Rat) / (b : Rat)) := by
  obtain ⟨e1, e2⟩ := rat_nd a b hb
  refine ⟨?_, ?_⟩
  · rw [e1, Int.natAbs_ediv_of_dvd (Int.ofNat_dvd_left.mpr (Nat.gcd_dvd_left _ _)), Int.natAbs_natCast]
    exact Nat.lt_of_le_of_lt (Nat.div_le_self _ _) h1
  · rw [e2]
    exact Nat.lt_of_le_of_lt (Nat.div_le_self _ _) h2
theorem sz_divI {a b : Int} {k : Nat} (hb : 0 < b) (h1 : a.natAbs < 2 ^ k) (h2 : b.natAbs < 2 ^ k) : Sz k ((a : Rat) / (b : Rat)) := by
  obtain ⟨n, rfl⟩ : ∃ n : Nat, b = (n : Int) := ⟨b.toNat, by omega⟩
  have e : ((n : Int) : Rat) = (n : Rat) := by norm_cast
  rw [e]
  exact sz_div (by omega) h1 (by simpa using h2)
theorem den_ne (p : Rat) : ((p.den : Nat) : Rat) ≠ 0 := fun z => p.den_nz (by exact_mod_cast z)
theorem den_pos (p : Rat) : 0 < p.den := Nat.pos_of_ne_zero p.den_nz
theorem num_den (p : Rat) : (p.num : Rat) / ((p.den : Nat) : Rat) = p := by
  have h := Rat.num_divInt_den p
  rw [Rat.divInt_eq_div] at h
  have e : (((p.den : Nat) : Int) : Rat) = ((p.den : Nat) : Rat) := by norm_cast
  rw [e] at h
  exact h
theorem add_div (p q : Rat) : ((p.num * (q.den : Int) + q.num * (p.den : Int) : Int) : Rat) / (((p.den : Int) * (q.den : Int) : Int) : Rat) = p + q := by
  have h1 := num_den p
  have h2 := num_den q
  have d1 := den_ne p
  have d2 := den_ne q
  have e3 : ((p.num * (q.den : Int) + q.num * (p.den : Int) : Int) : Rat) = (p.num : Rat) * (q.den : Rat) + (q.num : Rat) * (p.den : Rat) := by push_cast; rfl
  have e4 : (((p.den : Int) * (q.den : Int) : Int) : Rat) = (p.den : Rat) * (q.den : Rat) := by push_cast; rfl
  rw [e3, e4]
  grind
theorem mul_div (p q : Rat) : ((p.num * q.num : Int) : Rat) / (((p.den : Int) * (q.den : Int) : Int) : Rat) = p * q := by
  have h1 := num_den p
  have h2 := num_den q
  have d1 := den_ne p
  have d2 := den_ne q
  have e3 : ((p.num * q.num : Int) : Rat) = (p.num : Rat) * (q.num : Rat) := by push_cast; rfl
  have e4 : (((p.den : Int) * (q.den : Int) : Int) : Rat) = (p.den : Rat) * (q.den : Rat) := by push_cast; rfl
  rw [e3, e4]
  grind
theorem pos_num {p : Rat} (h : 0 < p) : 0 < p.num := by
  have := (Rat.lt_iff 0 p).mp h
  simpa using this
theorem nn_num {p : Rat} (h : 0 ≤ p) : 0 ≤ p.num := Rat.num_nonneg.mpr h
theorem div_div {p q : Rat} (hq : 0 < q) : ((p.num * (q.den : Int) : Int) : Rat) / (((p.den : Int) * q.num : Int) : Rat) = p / q := by
  have h1 := num_den p
  have h2 := num_den q
  have d1 := den_ne p
  have d2 := den_ne q
  have e3 : ((p.num * (q.den : Int) : Int) : Rat) = (p.num : Rat) * (q.den : Rat) := by push_cast; rfl
  have e4 : (((p.den : Int) * q.num : Int) : Rat) = (p.den : Rat) * (q.num : Rat) := by push_cast; rfl
  have d3 : (q.num : Rat) ≠ 0 := fun z => by
    have := pos_num hq
    have z' : q.num = 0 := by exact_mod_cast z
    omega
  rw [e3, e4]
  grind
theorem le_nd (p q : Rat) : (q ≤ p) ↔ p.num * (q.den : Int) ≥ q.num * (p.den : Int) := Rat.le_iff q p
theorem abs_mul_lt {a b : Int} {j k : Nat} (h1 : a.natAbs < 2 ^ j) (h2 : b.natAbs < 2 ^ k) : (a * b).natAbs < 2 ^ (j + k) := by
  rw [Int.natAbs_mul, Nat.pow_add]
  exact Nat.mul_lt_mul'' h1 h2
theorem abs_add_lt {a b : Int} {j : Nat} (h1 : a.natAbs < 2 ^ j) (h2 : b.natAbs < 2 ^ j) : (a + b).natAbs < 2 ^ (j + 1) := by
  rw [Nat.pow_succ]
  have := Int.natAbs_add_le a b
  omega
section
variable {j k : Nat} {p q : Rat}
theorem Sz.den (h : Sz j p) : ((p.den : Nat) : Int).natAbs < 2 ^ j := by rw [Int.natAbs_natCast]; exact h.2
theorem dd_pos (p q : Rat) : (0 : Int) < (p.den : Int) * (q.den : Int) := Int.mul_pos (by have := den_pos p; omega) (by have := den_pos q; omega)
theorem dn_pos (p : Rat) (h : 0 < q) : (0 : Int) < (p.den : Int) * q.num := Int.mul_pos (by have := den_pos p; omega) (pos_num h)
theorem Sz.add (h : Sz j p) (h' : Sz j q) : Sz (j + j + 1) (p + q) := by
  rw [← add_div]
  exact sz_divI (dd_pos p q) (abs_add_lt (abs_mul_lt h.1 h'.den) (abs_mul_lt h'.1 h.den)) (Nat.lt_of_lt_of_le (abs_mul_lt h.den h'.den) (Nat.pow_le_pow_right (by decide) (by omega)))
theorem Sz.mul (h : Sz j p) (h' : Sz j q) : Sz (j + j) (p * q) := by
  rw [← mul_div]
  exact sz_divI (dd_pos p q) (abs_mul_lt h.1 h'.1) (abs_mul_lt h.den h'.den)
theorem Sz.div (h : Sz j p) (h' : Sz j q) (hq : 0 < q) : Sz (j + j) (p / q) := by
  rw [← div_div hq]
  exact sz_divI (dn_pos p hq) (abs_mul_lt h.1 h'.den) (abs_mul_lt h.den h'.1)
end
end My

/-! own layer, 3: what the laws' own helpers promise -/
namespace My
open PySem PySem.Spec PyProof.Rows L2
/-- a pot at p, of at most n draws -/
def Pot (H : Hp) (p : Addr) (n : Int) : Prop := ∃ a b c : Int, H p = some (.lst [.int a, .int b, .int c]) ∧ 0 ≤ a ∧ 0 ≤ b ∧ b < 2305843009213693952 ∧ 0 ≤ c ∧ c ≤ n
def spTake : Sp := fun vs H Q _ => ∃ (p : Addr) (u n : Int), vs = [.ref p, .int u] ∧ Pot H p n ∧ n < 1000000 ∧ 0 < u ∧ u < 1000000000 ∧ ∀ (r : Int) (H' : Hp), 0 ≤ r → r < u → Pot H' p (n + 1) → But p H H' → Q (.int r) H'
def spOf (K : PySem.W.Frag) : Sp := fun vs H Q _ => ∃ (p q : Addr) (xs : List V) (n : Int), vs = [.ref p, .ref q] ∧ Pot H p n ∧ n < 1000000 ∧ q ≠ p ∧ SqL K H q xs ∧ 0 < xs.length ∧ xs.length < 1000000 ∧
  ∀ (v : V) (H' : Hp), v ∈ xs → Pot H' p (n + 1) → But p H H' → Q v H'
def spCells (K : PySem.W.Frag) : Sp := fun vs H Q _ => ∃ (a : Addr) (ns : List Int) (m : Int), vs = [.ref a, .int m] ∧ SqL K H a (ns.map V.int) ∧ ns.length ≤ 63 ∧ m ≤ 100 ∧
  ∀ (q : Addr) (H' : Hp) (j : Nat), j ≤ 100 → Same H H' → H q = none → H' q = some (.lst (rgV 0 j)) → Q (.ref q) H'
def spPot (K : PySem.W.Frag) : Sp := fun vs H Q _ => ∃ (a : Addr) (ns : List Int) (i : Int), vs = [.ref a, .int i] ∧ SqL K H a (ns.map V.int) ∧ 0 ≤ i ∧ i ≤ 100 ∧
  ∀ (p : Addr) (H' : Hp), Same H H' → H p = none → Pot H' p 0 → Q (.ref p) H'
def spCommon : Sp := fun vs H Q _ => ∃ a b : Int, vs = [.int a, .int b] ∧ Q (.int ((Nat.gcd a.natAbs b.natAbs : Nat) : Int)) H
def spPair : Sp := fun vs H Q _ => ∃ a b : Int, vs = [.int a, .int b] ∧ 0 < b ∧ a.natAbs < 2 ^ 4000 ∧ b.natAbs < 2 ^ 4000 ∧
  ∀ (p : Addr) (H' : Hp), Same H H' → H p = none → H' p = some (.tup (rat ((a : Rat) / b))) → Q (.ref p) H'
end My

/-! own layer, 4: ratios and sources -/
namespace My
open PySem PySem.Spec PyProof.Rows L2
section
variable {K : PySem.W.Frag} {H H' : Hp} {a p : Addr} {xs : List V}
theorem tyT (h : SqT K H a xs) : TyX K H (.ref a) (.type "tuple") := by
  rcases h with (h | ⟨o, h⟩) | ⟨o, its, n, hk, hc, _⟩
  · exact .base (.tup h)
  · exact .fTuple h
  · exact .kTuple hk hc
/-- a list that changes is no tuple that is read -/
theorem seqT_but {l : List V} (hp : H p = some (.lst l)) (B : But p H H') (h : SqT K H a xs) : SqT K H' a xs := by
  rcases h with (h | ⟨o, h⟩) | h
  · exact .inl (.inl (B _ _ (fun z => by rw [z, hp] at h; cases h) h))
  · exact .inl (.inr ⟨o, B _ _ (fun z => by rw [z, hp] at h; cases h) h⟩)
  · exact .inr h
theorem Pot.but {n : Int} (hP : Pot H p n) (B : But p H H') (h : SqT K H a xs) : SqT K H' a xs := by
  obtain ⟨_, _, _, hp, _⟩ := hP
  exact seqT_but hp B h
theorem Pot.mono {n m : Int} (hP : Pot H p n) (h : n ≤ m) : Pot H p m := by
  obtain ⟨a, b, c, hp, h1, h2, h3, h4, h5⟩ := hP
  exact ⟨a, b, c, hp, h1, h2, h3, h4, Int.le_trans h5 h⟩
theorem Pot.same {n : Int} (hP : Pot H p n) (S : Same H H') : Pot H' p n := by
  obtain ⟨a, b, c, hp, h⟩ := hP
  exact ⟨a, b, c, S _ _ hp, h⟩
end
section
variable {K : PySem.W.Frag} {H : Hp} {Q : VK} {b : Bool}
theorem i_isiI {i : Int} {n : String} (e : kitB "int" n = some b) (h : Q (.bl b) H) : rIsi K [.int i, .ty n] H Q := ⟨_, _, _, _, b, rfl, .ty n, .base (.int i), kit_ty e, h⟩
theorem i_isiT {a : Addr} {xs : List V} {n : String} (hx : SqT K H a xs) (e : kitB "tuple" n = some b) (h : Q (.bl b) H) : rIsi K [.ref a, .ty n] H Q := ⟨_, _, _, _, b, rfl, .ty n, tyT hx, kit_ty e, h⟩
theorem i_tupg {n : Nat} {t : TGs} {a : Addr} {xs : List V} {σ : L2.St} {R : L2.St → Hp → Prop} (hx : SqT K H a xs) (hl : xs.length = n) (h : t xs σ H R) : gTup K n t (.ref a) σ H R := ⟨a, xs, rfl, hx, hl, h⟩
theorem i_gcons {t : TG} {u : TGs} {v : V} {r : List V} {σ : L2.St} {R : L2.St → Hp → Prop} (h : t v σ H fun σ' H' => u r σ' H' R) : gCons t u (v :: r) σ H R := ⟨v, r, rfl, h⟩
theorem i_gnil {σ : L2.St} {R : L2.St → Hp → Prop} (h : R σ H) : gNil [] σ H R := ⟨rfl, h⟩
end
/-- one value, an integer -/
def spIsInt : Sp := fun vs H Q _ => ∃ i : Int, vs = [.int i] ∧ Q (.bl true) H
def spIsRatio (K : PySem.W.Frag) : Sp := fun vs H Q _ => ∃ (a : Addr) (p : Rat), vs = [.ref a] ∧ SqT K H a (rat p) ∧ 0 ≤ p ∧ Q (.bl true) H
/-- two ratios and what comes of them: a new ratio -/
def spBin (K : PySem.W.Frag) (pre : Rat → Rat → Prop) (f : Rat → Rat → Rat) : Sp := fun vs H Q _ => ∃ (a b : Addr) (p q : Rat) (j : Nat), vs = [.ref a, .ref b] ∧ SqT K H a (rat p) ∧ SqT K H b (rat q) ∧ Sz j p ∧ Sz j q ∧ j ≤ 1900 ∧ pre p q ∧
  ∀ (r : Addr) (H' : Hp), Same H H' → H r = none → H' r = some (.tup (rat (f p q))) → Q (.ref r) H'
abbrev spPlus (K : PySem.W.Frag) : Sp := spBin K (fun _ _ => True) fun p q => p + q
abbrev spTimes (K : PySem.W.Frag) : Sp := spBin K (fun _ _ => True) fun p q => p * q
abbrev spOver (K : PySem.W.Frag) : Sp := spBin K (fun _ q => 0 < q) fun p q => p / q
/-- a comparison of two ratios -/
def spCmp (K : PySem.W.Frag) (f : Rat → Rat → Bool) : Sp := fun vs H Q _ => ∃ (a b : Addr) (p q : Rat) (j : Nat), vs = [.ref a, .ref b] ∧ SqT K H a (rat p) ∧ SqT K H b (rat q) ∧ Sz j p ∧ Sz j q ∧ j ≤ 1900 ∧ Q (.bl (f p q)) H
abbrev spAtLeast (K : PySem.W.Frag) : Sp := spCmp K fun p q => decide (q ≤ p)
theorem mulZ {i j : Int} {a : Nat} (h1 : i.natAbs < 2 ^ a) (h2 : j.natAbs < 2 ^ a) (h : a ≤ 100000) : CMulW i j :=
  wide_mul (a := a + 1) (b := a + 1) (Nat.lt_of_lt_of_le h1 (Nat.pow_le_pow_right (by decide) (by omega))) (Nat.lt_of_lt_of_le h2 (Nat.pow_le_pow_right (by decide) (by omega))) (by omega) (by omega) (by omega)
theorem pow_le_4000 {n j : Nat} (h : n < 2 ^ j) (hj : j ≤ 4000) : n < 2 ^ 4000 := Nat.lt_of_lt_of_le h (Nat.pow_le_pow_right (by decide) hj)
/-! ### sources -/
def srcF (v o : Addr) : List (Str × V) := [("_volts", .ref v), ("_ohms", .ref o)]
theorem srcF_eq (v o : Addr) : putF "_ohms" (.ref o) (putF "_volts" (.ref v) []) = srcF v o := by
  show (if ("_volts" : Str) = "_ohms" then _ else _ :: _) = _
  rw [if_neg (by decide +kernel)]
  rfl
theorem srcF_v (v o : Addr) : (srcF v o).lookup ("_volts" : Str) = some (.ref v) := rfl
theorem srcF_o (v o : Addr) : (srcF v o).lookup ("_ohms" : Str) = some (.ref o) := rfl
theorem srcF_no {v o : Addr} {m : Str} (h1 : ¬ m = "_volts") (h2 : ¬ m = "_ohms") : (srcF v o).lookup m = none := by
  unfold srcF
  rw [List.lookup_cons, List.lookup_cons, beq_false_of_ne h1, beq_false_of_ne h2]
  rfl
/-- a source of these volts and ohms stands at s -/
def SrcAt (K : PySem.W.Frag) (C : Addr) (H : Hp) (s : Addr) (v r : Rat) : Prop := ∃ dx a b, H s = some (.ins C dx (srcF a b)) ∧ SqT K H a (rat v) ∧ SqT K H b (rat r) ∧ 0 ≤ v ∧ 0 ≤ r
section
variable {K : PySem.W.Frag} {C : Addr} {H H' : Hp} {s p : Addr} {v r : Rat}
theorem SrcAt.same (h : SrcAt K C H s v r) (S : Same H H') : SrcAt K C H' s v r := by
  obtain ⟨dx, a, b, h1, h2, h3, h4⟩ := h
  exact ⟨dx, a, b, S _ _ h1, L2.Same.seqT S h2, L2.Same.seqT S h3, h4⟩
theorem SrcAt.but {n : Int} (h : SrcAt K C H s v r) (hP : Pot H p n) (B : But p H H') : SrcAt K C H' s v r := by
  obtain ⟨dx, a, b, h1, h2, h3, h4⟩ := h
  obtain ⟨x, y, z, hp, _⟩ := id hP
  exact ⟨dx, a, b, B _ _ (fun e => by rw [e, hp] at h1; cases h1) h1, hP.but B h2, hP.but B h3, h4⟩
end
/-- the volts, the ohms of a source -/
def spVolts (C : Addr) : Sp := fun vs H Q _ => ∃ s dx a b, vs = [.ref s] ∧ H s = some (.ins C dx (srcF a b)) ∧ Q (.ref a) H
def spOhms (C : Addr) : Sp := fun vs H Q _ => ∃ s dx a b, vs = [.ref s] ∧ H s = some (.ins C dx (srcF a b)) ∧ Q (.ref b) H
def spSrcInit (K : PySem.W.Frag) (C : Addr) : Sp := fun vs H Q _ => ∃ s dx a b v r, vs = [.ref s, .ref a, .ref b] ∧ H s = some (.ins C dx []) ∧ SqT K H a (rat v) ∧ SqT K H b (rat r) ∧ 0 ≤ v ∧ 0 ≤ r ∧
  ∀ H', But s H H' → H' s = some (.ins C dx (srcF a b)) → Q .non H'
/-- 1 + r * g -/
def spWeak (K : PySem.W.Frag) : Sp := fun vs H Q _ => ∃ (a b : Addr) (r g : Rat) (j : Nat), vs = [.ref a, .ref b] ∧ SqT K H a (rat r) ∧ SqT K H b (rat g) ∧ Sz j r ∧ Sz j g ∧ j ≤ 400 ∧ 0 ≤ r ∧ 0 ≤ g ∧
  ∀ (p : Addr) (H' : Hp), Same H H' → H p = none → H' p = some (.tup (rat (1 + r * g))) → Q (.ref p) H'
def spAt (K : PySem.W.Frag) (C : Addr) : Sp := fun vs H Q _ => ∃ (s b : Addr) (v r g : Rat) (j : Nat), vs = [.ref s, .ref b] ∧ SrcAt K C H s v r ∧ SqT K H b (rat g) ∧ Sz j v ∧ Sz j r ∧ Sz j g ∧ j ≤ 400 ∧ 0 ≤ g ∧
  ∀ (p : Addr) (H' : Hp), Same H H' → H p = none → H' p = some (.tup (rat (v / (1 + r * g)))) → Q (.ref p) H'
def spUnder (K : PySem.W.Frag) (C : Addr) : Sp := fun vs H Q _ => ∃ (s b : Addr) (v r g : Rat) (j : Nat), vs = [.ref s, .ref b] ∧ SrcAt K C H s v r ∧ SqT K H b (rat g) ∧ Sz j v ∧ Sz j r ∧ Sz j g ∧ j ≤ 400 ∧ 0 ≤ g ∧
  ∀ (p : Addr) (H' : Hp), Same H H' → H p = none → SrcAt K C H' p (v / (1 + r * g)) (r / (1 + r * g)) → Q (.ref p) H'
/-- whether one source covers another one -/
def strong (v r w s : Rat) : Bool := decide (w ≤ v) && decide (w * r ≤ v * s)
def spSrcCmp (K : PySem.W.Frag) (C : Addr) (f : Rat → Rat → Rat → Rat → Bool) : Sp := fun vs H Q _ => ∃ (s t : Addr) (v r w u : Rat) (j : Nat), vs = [.ref s, .ref t] ∧ SrcAt K C H s v r ∧ SrcAt K C H t w u ∧ Sz j v ∧ Sz j r ∧ Sz j w ∧ Sz j u ∧ j ≤ 800 ∧
  ∀ H', Same H H' → Q (.bl (f v r w u)) H'
/-- what isinstance asks of the class of an instance -/
structure InsC (K : PySem.W.Frag) (C : Addr) : Prop where
  ha : PySem.W.findIn K (.ref C) "__class__" = some (some (.builtin "object.__class__"))
  hn : PySem.W.specialIn K (.builtin "object.__class__") "__get__" = some (some (.builtin "getset_descriptor.__get__"))
  ht : PySem.W.takesIn K (.builtin "object.__class__") = some true
  hm : PySem.W.mroIn K C (.type "object") = some true
theorem i_isiS {K : PySem.W.Frag} {C : Addr} {H : Hp} {s dx : Addr} {fs : List (Str × V)} {Q : VK} (h : H s = some (.ins C dx fs)) (c : Cls K C) (y : InsC K C) (k : Q (.bl true) H) : rIsi K [.ref s, .ref C] H Q :=
  ⟨_, _, _, _, true, rfl, .own C, .base (.ins h c y.ha y.hn y.ht y.hm), by unfold PySem.W.kitOne; rw [if_pos (beq_self_eq_true _)], k⟩
/-! ### fields, properties, methods, makes: named, so that a step finds them -/
def FldQ (K : PySem.W.Frag) (f : Str) (x : V) (H : Hp) (Q : VK) : Prop := ∃ a C dx fs v, x = .ref a ∧ H a = some (.ins C dx fs) ∧ Cls K C ∧ NoAttr K C f ∧ fs.lookup f = some v ∧ Q v H
def PropQ (C : Addr) (sp : Sp) (dvs : List V) (E : XK) (x : V) (H : Hp) (Q : VK) : Prop := ∃ a dx fs, x = .ref a ∧ H a = some (.ins C dx fs) ∧ sp (.ref a :: dvs) H Q E
def MethQ (C : Addr) (m : Str) (sp : Sp) (dvs : List V) (E : XK) (t : TA) (σ : L2.St) (x : V) (H : Hp) (Q : VK) : Prop := ∃ a dx fs, x = .ref a ∧ H a = some (.ins C dx fs) ∧ fs.lookup m = none ∧ t σ H fun vs H2 => sp (x :: (vs ++ dvs)) H2 Q E
def MakeQ (C : Addr) (sp : Sp) (dvs : List V) (E : XK) (vs : List V) (H : Hp) (Q : VK) : Prop := ∀ x dx, H x = none → H dx = none → dx ≠ x → sp (.ref x :: (vs ++ dvs)) (upd (upd H dx (.own x)) x (.ins C dx [])) (fun v H2 => v = .non ∧ Q (.ref x) H2) E
section
variable {K : PySem.W.Frag} {σ : L2.St} {H : Hp} {ta : TE} {t : TA} {Q : VK} {C s a b dx : Addr} {sp : Sp} {dvs : List V} {E : XK} {m f : Str} {D : Ends} {v r : Rat} {te : TE}
theorem i_fld0 (h : ta σ H fun x H1 => FldQ K f x H1 Q) : tFld K ta f σ H Q := h
theorem i_prop (h : ta σ H fun x H1 => PropQ C sp dvs E x H1 Q) : tProp C sp dvs E ta σ H Q := h
theorem i_meth (h : ta σ H fun x H1 => MethQ C m sp dvs E t σ x H1 Q) : tMeth C m sp dvs E ta t σ H Q := h
theorem i_make (h : t σ H fun vs H1 => MakeQ C sp dvs E vs H1 Q) : tMake C sp dvs E t σ H Q := h
theorem i_fv (h : H s = some (.ins C dx (srcF a b))) (c : Cls K C) (n : NoAttr K C "_volts") (k : Q (.ref a) H) : FldQ K "_volts" (.ref s) H Q := ⟨s, C, dx, _, _, rfl, h, c, n, srcF_v a b, k⟩
theorem i_fo (h : H s = some (.ins C dx (srcF a b))) (c : Cls K C) (n : NoAttr K C "_ohms") (k : Q (.ref b) H) : FldQ K "_ohms" (.ref s) H Q := ⟨s, C, dx, _, _, rfl, h, c, n, srcF_o a b, k⟩
theorem i_pv (h : H s = some (.ins C dx (srcF a b))) (k : Q (.ref a) H) : PropQ C (spVolts C) [] E (.ref s) H Q := ⟨s, dx, _, rfl, h, s, dx, a, b, rfl, h, k⟩
theorem i_po (h : H s = some (.ins C dx (srcF a b))) (k : Q (.ref b) H) : PropQ C (spOhms C) [] E (.ref s) H Q := ⟨s, dx, _, rfl, h, s, dx, a, b, rfl, h, k⟩
theorem i_me (h : H s = some (.ins C dx (srcF a b))) (h1 : ¬ m = "_volts") (h2 : ¬ m = "_ohms") (k : t σ H fun vs H2 => sp (.ref s :: (vs ++ dvs)) H2 Q E) : MethQ C m sp dvs E t σ (.ref s) H Q := ⟨s, dx, _, rfl, h, srcF_no h1 h2, k⟩
theorem i_mkS (ha : SqT K H a (rat v)) (hb : SqT K H b (rat r)) (hv : 0 ≤ v) (hr : 0 ≤ r) (k : ∀ s H2, Same H H2 → H s = none → SrcAt K C H2 s v r → Q (.ref s) H2) : MakeQ C (spSrcInit K C) [] E [.ref a, .ref b] H Q := by
  intro x dx hx hd hne
  have S : Same H (upd (upd H dx (.own x)) x (.ins C dx [])) := fun c o e => by
    rw [upd_ne (ne_of_none e hx), upd_ne (ne_of_none e hd)]
    exact e
  refine ⟨x, dx, a, b, v, r, rfl, upd_same, L2.Same.seqT S ha, L2.Same.seqT S hb, hv, hr, fun H' B e => ⟨rfl, ?_⟩⟩
  have S2 : Same H H' := fun c o e => B c o (ne_of_none e hx) (S c o e)
  exact k x H' S2 hx ⟨dx, a, b, e, L2.Same.seqT S2 ha, L2.Same.seqT S2 hb, hv, hr⟩
/-- self.f = e -/
theorem i_sfld (h : te σ H fun y H1 => ta σ H1 fun x H2 => ∃ a C dx fs, x = .ref a ∧ H2 a = some (.ins C dx fs) ∧ Cls K C ∧ NoAttr K C f ∧ fs.length < 1000 ∧ D.nx σ (upd H2 a (.ins C dx (putF f y fs)))) : sFld K ta te f D σ H := h
theorem one_pos {r g : Rat} (hr : 0 ≤ r) (hg : 0 ≤ g) : 0 < 1 + r * g := by
  have := Rat.mul_nonneg hr hg
  grind
theorem div_nn {p q : Rat} (hp : 0 ≤ p) (hq : 0 < q) : 0 ≤ p / q := by
  rw [Rat.div_def]
  exact Rat.mul_nonneg hp (Rat.le_of_lt (Rat.inv_pos.mpr hq))
theorem sz_one {j : Nat} (h : 0 < j) : Sz j 1 := ⟨Nat.one_lt_pow (by omega) (by decide), Nat.one_lt_pow (by omega) (by decide)⟩
theorem Sz.weak {j : Nat} {r g : Rat} (h1 : Sz j r) (h2 : Sz j g) : Sz (2 * j + 2 * j + 3) (1 + r * g) := by
  have a := (h1.mul h2).mono (k := 2 * j + 1) (by omega)
  exact ((sz_one (j := 2 * j + 1) (by omega)).add a).mono (by omega)
end
end My

/-! own layer: what is walked, list comprehensions -/
namespace My
open PySem PySem.Spec PyProof.Rows L2
def LcQ (J : It) (g : TG) (tt : TT) (te : TE) (vs : List Nat) (σ : L2.St) (H1 : Hp) (Q : VK) : Prop := ∀ D, H1 D = none → ∃ W : Nat → Nat → Hp → Prop, (∃ m, W 0 m (upd H1 D (.lst []))) ∧ ∀ i m H, W i m H →
  (J.stop i H ∧ Q (.ref D) H) ∨ (J.go i H ∧ ∃ Nx : Hp → Prop, (∀ H', Nx H' → ∃ m', m' < m ∧ W (i + 1) m' H') ∧ ∀ x H', J.yld i H x H' → g x (wipe σ vs) H' fun σ2 H2 => wipe σ2 vs = wipe σ vs ∧ tt σ2 H2 fun b H3 =>
    if b = true then te σ2 H3 fun y H4 => ∃ acc, H4 D = some (.lst acc) ∧ acc.length < sizeLine ∧ Nx (upd H4 D (.lst (acc ++ [y]))) else Nx H3)
def ForQ (J : It) (g : TG) (tb : TS) (D : Ends) (σ : L2.St) (H1 : Hp) : Prop := ∃ W : Nat → Nat → L2.St → Hp → Prop, (∃ m, W 0 m σ H1) ∧ ∀ i m σ H, W i m σ H →
  (J.stop i H ∧ D.nx σ H) ∨ (J.go i H ∧ ∃ N : L2.St → Hp → Prop, (∀ σ' H', N σ' H' → ∃ m', m' < m ∧ W (i + 1) m' σ' H') ∧ ∀ x H', J.yld i H x H' → g x σ H' fun σ2 H2 => tb { D with nx := N, ct := N, bk := D.nx } σ2 H2)
def RngQ (vs : List V) (H : Hp) (R : It → Hp → Prop) : Prop := ∃ j : Int, vs = [.int j] ∧ -(2 ^ 62) ≤ j ∧ j < 2 ^ 62 ∧ R (Itr 0 j.toNat) H
def WlkL (K : PySem.W.Frag) (x : V) (H : Hp) (R : It → Hp → Prop) : Prop := ∃ a, x = .ref a ∧ (∃ xs, SqL K H a xs) ∧ R (Itl K a) H
def WlkT (K : PySem.W.Frag) (x : V) (H : Hp) (R : It → Hp → Prop) : Prop := ∃ a, x = .ref a ∧ (∃ xs, SqT K H a xs) ∧ R (Itt K a) H
section
variable {K : PySem.W.Frag} {σ : L2.St} {H : Hp} {wi : TI} {g : TG} {tt : TT} {te tl : TE} {tb : TS} {ta : TA} {vs : List Nat} {Q : VK} {D : Ends} {R : It → Hp → Prop} {a : Addr} {xs : List V}
theorem i_lc (h : wi σ H fun J H1 => LcQ J g tt te vs σ H1 Q) : tLc wi g tt te vs σ H Q := h
theorem i_for (h : wi σ H fun J H1 => ForQ J g tb D σ H1) : tFor wi g tb D σ H := h
theorem i_rng (h : ta σ H fun vs H1 => RngQ vs H1 R) : iRng1 ta σ H R := h
theorem i_rngv {j : Int} (h1 : -(2 ^ 62) ≤ j) (h2 : j < 2 ^ 62) (h : R (Itr 0 j.toNat) H) : RngQ [.int j] H R := ⟨j, rfl, h1, h2, h⟩
theorem i_wl (h : tl σ H fun x H1 => WlkL K x H1 R) : iList K tl σ H R := h
theorem i_wt (h : tl σ H fun x H1 => WlkT K x H1 R) : iTup K tl σ H R := h
theorem i_wlv (hl : SqL K H a xs) (h : R (Itl K a) H) : WlkL K (.ref a) H R := ⟨a, rfl, ⟨xs, hl⟩, h⟩
theorem i_wtv (hl : SqT K H a xs) (h : R (Itt K a) H) : WlkT K (.ref a) H R := ⟨a, rfl, ⟨xs, hl⟩, h⟩
/-- what a turn's element is to reach -/
def TurnP (Pv : Addr → Nat → Hp → List V → Prop) (A : Addr) (i : Nat) : VK := fun y H4 => ∃ acc, H4 A = some (.lst acc) ∧ acc.length < sizeLine ∧
  ∃ acc', acc'.length = i + 1 ∧ upd H4 A (.lst (acc ++ [y])) A = some (.lst acc') ∧ Pv A (i + 1) (upd H4 A (.lst (acc ++ [y]))) acc'
theorem turn_end {Pv : Addr → Nat → Hp → List V → Prop} {A : Addr} {i : Nat} {acc : List V} {y : V} (h : H A = some (.lst acc)) (hl : acc.length = i) (hi : i < 1000000) (k : ∀ H5, But A H H5 → H5 A = some (.lst (acc ++ [y])) → Pv A (i + 1) H5 (acc ++ [y])) : TurnP Pv A i y H :=
  ⟨acc, h, by rw [hl]; exact Nat.lt_trans hi (by decide), acc ++ [y], by rw [List.length_append, hl]; rfl, upd_same, k _ But.upd upd_same⟩
theorem lcq_range {lo : Int} {n : Nat} (Pv : Addr → Nat → Hp → List V → Prop) (h0 : ∀ A H', Same H H' → H A = none → H' A = some (.lst []) → Pv A 0 H' [])
    (hs : ∀ A i H' acc, i < n → acc.length = i → H' A = some (.lst acc) → Pv A i H' acc → g (.int (lo + i)) (wipe σ vs) H' fun σ2 H2 => wipe σ2 vs = wipe σ vs ∧ te σ2 H2 (TurnP Pv A i))
    (hd : ∀ A H' acc, acc.length = n → H' A = some (.lst acc) → Pv A n H' acc → Q (.ref A) H') : LcQ (Itr lo n) g tYes te vs σ H Q := by
  intro A hA
  refine lc_range (fun i H' => ∃ acc, acc.length = i ∧ H' A = some (.lst acc) ∧ Pv A i H' acc) ⟨[], rfl, upd_same, h0 A _ (fun b u e => by rw [upd_ne (ne_of_none e hA)]; exact e) hA upd_same⟩ ?_ (fun H' ⟨acc, h1, h2, h3⟩ => hd A H' acc h1 h2 h3)
  rintro i H' hi ⟨acc, hl, hA', hP⟩
  exact hs A i H' acc hi hl hA' hP
theorem lcq_list {xs : List V} {a : Addr} (Pv : Addr → Nat → Hp → List V → Prop) (h0 : ∀ A H', Same H H' → H A = none → H' A = some (.lst []) → Pv A 0 H' []) (hl : ∀ A i H' acc, H' A = some (.lst acc) → Pv A i H' acc → SqL K H' a xs)
    (hs : ∀ A i x H' acc, xs[i]? = some x → acc.length = i → H' A = some (.lst acc) → Pv A i H' acc → g x (wipe σ vs) H' fun σ2 H2 => wipe σ2 vs = wipe σ vs ∧ te σ2 H2 (TurnP Pv A i))
    (hd : ∀ A H' acc, acc.length = xs.length → H' A = some (.lst acc) → Pv A xs.length H' acc → Q (.ref A) H') : LcQ (Itl K a) g tYes te vs σ H Q := by
  intro A hA
  refine lc_list (xs := xs) (fun i H' => ∃ acc, acc.length = i ∧ H' A = some (.lst acc) ∧ Pv A i H' acc) ⟨[], rfl, upd_same, h0 A _ (fun b u e => by rw [upd_ne (ne_of_none e hA)]; exact e) hA upd_same⟩ (fun i H' _ ⟨acc, h1, h2, h3⟩ => hl A i H' acc h2 h3) ?_ (fun H' ⟨acc, h1, h2, h3⟩ => hd A H' acc h1 h2 h3)
  rintro i x H' hx ⟨acc, hl, hA', hP⟩
  exact hs A i x H' acc hx hl hA' hP
theorem lcq_tup {xs : List V} {a : Addr} (Pv : Addr → Nat → Hp → List V → Prop) (h0 : ∀ A H', Same H H' → H A = none → H' A = some (.lst []) → Pv A 0 H' []) (hl : ∀ A i H' acc, H' A = some (.lst acc) → Pv A i H' acc → SqT K H' a xs)
    (hs : ∀ A i x H' acc, xs[i]? = some x → acc.length = i → H' A = some (.lst acc) → Pv A i H' acc → g x (wipe σ vs) H' fun σ2 H2 => wipe σ2 vs = wipe σ vs ∧ te σ2 H2 (TurnP Pv A i))
    (hd : ∀ A H' acc, acc.length = xs.length → H' A = some (.lst acc) → Pv A xs.length H' acc → Q (.ref A) H') : LcQ (Itt K a) g tYes te vs σ H Q := by
  intro A hA
  refine lc_tup (xs := xs) (fun i H' => ∃ acc, acc.length = i ∧ H' A = some (.lst acc) ∧ Pv A i H' acc) ⟨[], rfl, upd_same, h0 A _ (fun b u e => by rw [upd_ne (ne_of_none e hA)]; exact e) hA upd_same⟩ (fun i H' _ ⟨acc, h1, h2, h3⟩ => hl A i H' acc h2 h3) ?_ (fun H' ⟨acc, h1, h2, h3⟩ => hd A H' acc h1 h2 h3)
  rintro i x H' hx ⟨acc, hl, hA', hP⟩
  exact hs A i x H' acc hx hl hA' hP
theorem forq_list {K : PySem.W.Frag} {a : Addr} {xs : List V} {g : TG} {tb : TS} {D : Ends} {σ : L2.St} {H : Hp} (Pv : Nat → L2.St → Hp → Prop) (h0 : Pv 0 σ H) (hl : ∀ i σ H, i ≤ xs.length → Pv i σ H → SqL K H a xs)
    (hs : ∀ i x σ H, xs[i]? = some x → Pv i σ H → g x σ H fun σ2 H2 => tb { D with nx := Pv (i + 1), ct := Pv (i + 1), bk := D.nx } σ2 H2) (hd : ∀ σ H, Pv xs.length σ H → D.nx σ H) : ForQ (Itl K a) g tb D σ H := for_list Pv h0 hl hs hd
theorem forq_tup {K : PySem.W.Frag} {a : Addr} {xs : List V} {g : TG} {tb : TS} {D : Ends} {σ : L2.St} {H : Hp} (Pv : Nat → L2.St → Hp → Prop) (h0 : Pv 0 σ H) (hl : ∀ i σ H, i ≤ xs.length → Pv i σ H → SqT K H a xs)
    (hs : ∀ i x σ H, xs[i]? = some x → Pv i σ H → g x σ H fun σ2 H2 => tb { D with nx := Pv (i + 1), ct := Pv (i + 1), bk := D.nx } σ2 H2) (hd : ∀ σ H, Pv xs.length σ H → D.nx σ H) : ForQ (Itt K a) g tb D σ H := for_tup Pv h0 hl hs hd
/-! ### all, any; unpacking a list; three at once -/
theorem i_all {bs : List Bool} {a : Addr} (hl : SqL K H a (bs.map V.bl)) (h : Q (.bl (bs.all id)) H) : rAll K [.ref a] H Q := ⟨a, bs, rfl, hl, h⟩
theorem i_any {bs : List Bool} {a : Addr} (hl : SqL K H a (bs.map V.bl)) (h : Q (.bl (bs.any id)) H) : rAny K [.ref a] H Q := ⟨a, bs, rfl, hl, h⟩
theorem i_unl {n : Nat} {t : TGs} {a : Addr} {xs : List V} {σ : L2.St} {R : L2.St → Hp → Prop} (hx : SqL K H a xs) (hl : xs.length = n) (h : t xs σ H R) : gUnl K n t (.ref a) σ H R := ⟨a, xs, rfl, hx, hl, h⟩
theorem i_par3 {i j l : Nat} {ta : TA} (h : ta σ H fun vs H1 => ∃ u v w, vs = [u, v, w] ∧ D.nx (((σ.set i (some u)).set j (some v)).set l (some w)) H1) : tPar3 i j l ta D σ H := h
theorem i_three {x y z : V} {P : V → V → V → Prop} (h : P x y z) : ∃ u v w, [x, y, z] = [u, v, w] ∧ P u v w := ⟨x, y, z, rfl, h⟩
end
end My

/-! what the helpers of one law promise: sources compared -/
namespace My
open PySem PySem.Spec PyProof.Rows L2
section
variable {X : Cx}
def rReprB : List V → Hp → VK → Prop := fun xs H Q => ∃ b, xs = [.bl b] ∧ Q (.str (if b then "True" else "False")) H
theorem op_eqK {K : PySem.W.Frag} (hu : X.A.units + 64 < cLine) (hK : X.K = K) : OpR X (compareOp .Eq) (rEqD K) := by
  subst hK
  exact op_eqD hu
theorem pg_tupK {K : PySem.W.Frag} {es : List Expr} {i n : Nat} {pos : Pos} {t : TGs} (hc : X.calm = true) (hK : X.K = K) (h : PGs X es t) (hn : (assignEach es X.env).length = n := by rfl) (hs : List.findIdx? (fun x => x.fst) (assignEach es X.env) = none := by rfl) : PG X (.Tuple es i pos) (gTup K n t) := by
  subst hK
  exact pg_tup hc h hn hs
theorem cr_reprB : CallR X (.builtin "repr") rReprB := by
  intro pins s σ H xs us Q I r h
  obtain ⟨b, rfl, q⟩ := h
  cases r with
  | cons r1 rr =>
    cases rr
    cases r1
    exact PySem.P.repr_of_bool ⟨.str _, H, I.tok _, ⟨_, rfl⟩, q⟩
end
section
variable {H : Hp} {Q : VK}
theorem i_reprB {b : Bool} (h : Q (.str (if b then "True" else "False")) H) : rReprB [.bl b] H Q := ⟨b, rfl, h⟩
theorem i_neS {x y : Str} (e : x = y) (h : Q (.bl false) H) : rNe (.str x) (.str y) H Q := ⟨rfl, by rw [e, decide_eq_true rfl]; exact h⟩
end
theorem div_nnI {a b : Int} (ha : 0 ≤ a) (hb : 0 < b) : (0 : Rat) ≤ (a : Rat) / (b : Rat) := div_nn (by exact_mod_cast ha) (by exact_mod_cast hb)
theorem i_eqB {H : Hp} {Q : VK} {a b : Int} (h1 : a = b → Q (.bl true) H) (h2 : ¬ a = b → Q (.bl false) H) : rEq (.int a) (.int b) H Q :=
  if e : a = b then i_eqT e (h1 e) else i_eqF e (h2 e)
theorem sz_zero : Sz 1 0 := ⟨by decide, by decide⟩
theorem ite_d2 {c A B : Prop} [Decidable c] (h1 : c → A) (h2 : ¬ c → B) : if decide c = true then A else B :=
  if e : c then ite_d e (h1 e) else ite_dn e (h2 e)
theorem not_less {x y : Rat} : (!decide (x < y)) = (true && decide (y ≤ x)) := by
  rw [Bool.true_and, ← decide_not, decide_eq_decide]
  exact Rat.not_lt
abbrev spLess (K : PySem.W.Frag) : Sp := spCmp K fun p q => decide (p < q)
/-- a pair of ratios: volts, ohms -/
def PairAt (K : PySem.W.Frag) (H : Hp) (s : Addr) (v r : Rat) : Prop := ∃ a b, SqT K H s [.ref a, .ref b] ∧ SqT K H a (rat v) ∧ SqT K H b (rat r) ∧ 0 ≤ v ∧ 0 ≤ r
section
variable {K : PySem.W.Frag} {H H' : Hp} {s p : Addr} {v r : Rat}
theorem PairAt.same (h : PairAt K H s v r) (S : Same H H') : PairAt K H' s v r := by
  obtain ⟨a, b, h1, h2, h3, h4⟩ := h
  exact ⟨a, b, S.seqT h1, S.seqT h2, S.seqT h3, h4⟩
theorem PairAt.but {n : Int} (h : PairAt K H s v r) (hP : Pot H p n) (B : But p H H') : PairAt K H' s v r := by
  obtain ⟨a, b, h1, h2, h3, h4⟩ := h
  exact ⟨a, b, hP.but B h1, hP.but B h2, hP.but B h3, h4⟩
end
theorem PairAt.butL {K : PySem.W.Frag} {H H' : Hp} {s p : Addr} {v r : Rat} {ys : List V} (h : PairAt K H s v r) (hp : H p = some (.lst ys)) (B : But p H H') : PairAt K H' s v r := by
  obtain ⟨a, b, h1, h2, h3, h4⟩ := h
  exact ⟨a, b, seqT_but hp B h1, seqT_but hp B h2, seqT_but hp B h3, h4⟩
theorem Sz.read {j : Nat} {v r g : Rat} (h1 : Sz j v) (h2 : Sz j r) (h3 : Sz j g) (hr : 0 ≤ r) (hg : 0 ≤ g) : Sz (8 * j + 6) (v / (1 + r * g)) :=
  ((h1.mono (by omega)).div (h2.weak h3) (one_pos hr hg)).mono (by omega)
def spRead (K : PySem.W.Frag) : Sp := fun vs H Q _ => ∃ (a s : Addr) (g v r : Rat) (j : Nat), vs = [.ref a, .ref s] ∧ SqT K H a (rat g) ∧ PairAt K H s v r ∧ 0 ≤ g ∧ Sz j g ∧ Sz j v ∧ Sz j r ∧ j ≤ 400 ∧
  ∀ (p : Addr) (H' : Hp), Same H H' → H p = none → H' p = some (.tup (rat (v / (1 + r * g)))) → Q (.ref p) H'
def spFair (K : PySem.W.Frag) : Sp := fun vs H Q _ => ∃ (p : Addr) (n : Int), vs = [.ref p] ∧ Pot H p n ∧ n < 900000 ∧
  ∀ (a : Addr) (H' : Hp) (q : Rat), But p H H' → Pot H' p (n + 5) → H a = none → SqT K H' a (rat q) → 0 ≤ q → Sz 20 q → Q (.ref a) H'
def spNear (K : PySem.W.Frag) : Sp := fun vs H Q _ => ∃ (p s : Addr) (n : Int) (v r : Rat) (j : Nat), vs = [.ref p, .ref s] ∧ Pot H p n ∧ n < 800000 ∧ PairAt K H s v r ∧ Sz j v ∧ Sz j r ∧ 20 ≤ j ∧ j ≤ 200 ∧
  ∀ (a : Addr) (H' : Hp) (w u : Rat), But p H H' → Pot H' p (n + 20) → PairAt K H' a w u → Sz (j + j) w → Sz (j + j) u → Q (.ref a) H'
def spIsStrong (K : PySem.W.Frag) : Sp := fun vs H Q _ => ∃ (s t : Addr) (v r w u : Rat) (j : Nat), vs = [.ref s, .ref t] ∧ PairAt K H s v r ∧ PairAt K H t w u ∧ Sz j v ∧ Sz j r ∧ Sz j w ∧ Sz j u ∧ j ≤ 400 ∧
  ∀ H', Same H H' → Q (.bl (strong v r w u)) H'
/-- loads beside which one reads less than other -/
def Weak (K : PySem.W.Frag) (H : Hp) (v r w u : Rat) (x : V) : Prop := ∃ a g, x = .ref a ∧ SqT K H a (rat g) ∧ 0 ≤ g ∧ Sz 40 g ∧ v / (1 + r * g) < w / (1 + u * g)
theorem Weak.same {K : PySem.W.Frag} {H H' : Hp} {v r w u : Rat} {x : V} (h : Weak K H v r w u x) (S : Same H H') : Weak K H' v r w u x := by
  obtain ⟨a, g, e, h1, h2⟩ := h
  exact ⟨a, g, e, S.seqT h1, h2⟩
theorem Weak.butL {K : PySem.W.Frag} {H H' : Hp} {p : Addr} {ys : List V} {v r w u : Rat} {x : V} (h : Weak K H v r w u x) (hp : H p = some (.lst ys)) (B : But p H H') : Weak K H' v r w u x := by
  obtain ⟨a, g, e, h1, h2⟩ := h
  exact ⟨a, g, e, seqT_but hp B h1, h2⟩
theorem rat_int (i : Int) : [V.int i, V.int 1] = rat (i : Rat) := rfl
theorem sz_int {i : Int} {k : Nat} (h : i.natAbs < 2 ^ k) (hk : 0 < k) : Sz k (i : Rat) := ⟨h, Nat.one_lt_pow (by omega) (by decide)⟩
def spWeakLoads (K : PySem.W.Frag) : Sp := fun vs H Q _ => ∃ (s t : Addr) (v r w u : Rat) (j : Nat), vs = [.ref s, .ref t] ∧ PairAt K H s v r ∧ PairAt K H t w u ∧ Sz j v ∧ Sz j r ∧ Sz j w ∧ Sz j u ∧ j ≤ 100 ∧
  ∀ (l : Addr) (H' : Hp) (xs : List V), Same H H' → H l = none → H' l = some (.lst xs) → xs.length ≤ 100 → (∀ x ∈ xs, Weak K H' v r w u x) → Q (.ref l) H'
def spTwo (K : PySem.W.Frag) : Sp := fun vs H Q _ => ∃ (p s t : Addr) (n : Int) (v r w u : Rat), vs = [.ref p, .ref s, .ref t] ∧ Pot H p n ∧ n < 800000 ∧ PairAt K H s v r ∧ PairAt K H t w u ∧ Sz 100 v ∧ Sz 100 r ∧ Sz 100 w ∧ Sz 100 u ∧
  ∀ H', But p H H' → Pot H' p (n + 20) → Q (.bl true) H'
/-- one round of a law: the pot may be drawn from, the answer is True -/
def spRound (m : Int) : Sp := fun vs H Q _ => ∃ (p : Addr) (n : Int), vs = [.ref p] ∧ Pot H p n ∧ n < 100000 ∧ ∀ H', But p H H' → Pot H' p (n + m) → Q (.bl true) H'
def spLaw (K : PySem.W.Frag) : Sp := fun vs H Q _ => ∃ (a : Addr) (ns : List Int), vs = [.ref a] ∧ SqL K H a (ns.map V.int) ∧ ns.length ≤ 63 ∧ ∀ H', Q (.bl true) H'
theorem strong_self {v r : Rat} : strong v r v r = true := by
  unfold strong
  rw [decide_eq_true (Rat.le_refl (a := v)), decide_eq_true (Rat.le_refl (a := v * r))]
  rfl
theorem strong_iff {v r w u : Rat} : strong v r w u = true ↔ w ≤ v ∧ w * r ≤ v * u := by
  unfold strong
  rw [Bool.and_eq_true, decide_eq_true_iff, decide_eq_true_iff]
theorem div_mul_self {p q : Rat} (hq : 0 < q) : p / q * q = p := by
  have : q ≠ 0 := fun z => by rw [z] at hq; exact absurd hq (by decide)
  grind
theorem cross_lt {a b c d : Rat} (hb : 0 < b) (hd : 0 < d) : a / b < c / d ↔ a * d < c * b := by
  rw [Rat.div_lt_iff hb]
  have e : c / d * b = c * b / d := by grind
  rw [e, Rat.lt_div_iff hd]
theorem cross_eq {a b c d : Rat} (hb : 0 < b) (hd : 0 < d) : a / b = c / d ↔ a * d = c * b := by
  have h1 : b ≠ 0 := fun z => by rw [z] at hb; exact absurd hb (by decide)
  have h2 : d ≠ 0 := fun z => by rw [z] at hd; exact absurd hd (by decide)
  grind
theorem due_read {v r w u g : Rat} (h : strong v r w u = true) (hr : 0 ≤ r) (hu : 0 ≤ u) (hg : 0 ≤ g) : ¬ v / (1 + r * g) < w / (1 + u * g) := by
  obtain ⟨h1, h2⟩ := strong_iff.mp h
  rw [cross_lt (one_pos hr hg) (one_pos hu hg), Rat.not_lt]
  have := Rat.mul_le_mul_of_nonneg_right h2 hg
  have e1 : w * (1 + r * g) = w + w * r * g := by grind
  have e2 : v * (1 + u * g) = v + v * u * g := by grind
  rw [e1, e2]
  grind
theorem both_iff {v r w u : Rat} (h : strong v r w u = true) (hr : 0 ≤ r) (hu : 0 ≤ u) : strong w u v r = (decide (v / (1 + r * 0) = w / (1 + u * 0)) && (decide (v / (1 + r * 1) = w / (1 + u * 1)) && decide (v / (1 + r * 2) = w / (1 + u * 2)))) := by
  obtain ⟨h1, h2⟩ := strong_iff.mp h
  have c0 := cross_eq (a := v) (c := w) (one_pos hr (g := 0) (by decide)) (one_pos hu (g := 0) (by decide))
  have c1 := cross_eq (a := v) (c := w) (one_pos hr (g := 1) (by decide)) (one_pos hu (g := 1) (by decide))
  have c2 := cross_eq (a := v) (c := w) (one_pos hr (g := 2) (by decide)) (one_pos hu (g := 2) (by decide))
  rw [Bool.eq_iff_iff, strong_iff, Bool.and_eq_true, Bool.and_eq_true, decide_eq_true_iff, decide_eq_true_iff, decide_eq_true_iff, c0, c1, c2]
  constructor
  · rintro ⟨h3, h4⟩
    have e1 := Rat.le_antisymm h1 h3
    have e2 := Rat.le_antisymm h2 h4
    refine ⟨?_, ?_, ?_⟩ <;> grind
  · rintro ⟨h3, h4, -⟩
    have e1 : v = w := by grind
    have e2 : v * u = w * r := by grind
    exact ⟨by rw [e1]; exact Rat.le_refl, by rw [e2]; exact Rat.le_refl⟩
theorem rat_inj {p q : Rat} : (decide (p.num = q.num) && decide ((p.den : Int) = (q.den : Int))) = decide (p = q) := by
  rw [Bool.eq_iff_iff, Bool.and_eq_true, decide_eq_true_iff, decide_eq_true_iff, decide_eq_true_iff]
  constructor
  · rintro ⟨h1, h2⟩
    exact Rat.ext h1 (by exact_mod_cast h2)
  · rintro rfl
    exact ⟨rfl, rfl⟩
theorem i_eqBl {H : Hp} {Q : VK} {a b : Bool} (h : Q (.bl (a == b)) H) : rEq (.bl a) (.bl b) H Q := ⟨rfl, by
  have e : decide (V.bl a = V.bl b) = (a == b) := by cases a <;> cases b <;> decide
  rw [e]
  exact h⟩
theorem i_eqDR {K : PySem.W.Frag} {H : Hp} {Q : VK} {a b : Addr} {p q : Rat} (ha : SqT K H a (rat p)) (hb : SqT K H b (rat q)) (h : Q (.bl (decide (p = q))) H) : rEqD K (.ref a) (.ref b) H Q := by
  refine ⟨.tuple [.int p.num, .int p.den], .tuple [.int q.num, .int q.den], .tup ha (.cons (.int _) (.cons (.int _) .nil)), .tup hb (.cons (.int _) (.cons (.int _) .nil)), rfl, rfl, ?_⟩
  have e : PyData.eqv (.tuple [.int p.num, .int p.den]) (.tuple [.int q.num, .int q.den]) = decide (p = q) := by
    rw [← rat_inj]
    simp [PyData.eqv, PyData.eqvAll]
    rfl
  rw [e]
  exact h
theorem i_srcCmp {K : PySem.W.Frag} {C : Addr} {H : Hp} {Q : VK} {f : Rat → Rat → Rat → Rat → Bool} {s t : Addr} {v r w u : Rat} {j : Nat} (A1 : SrcAt K C H s v r) (A2 : SrcAt K C H t w u) (zv : Sz j v) (zr : Sz j r) (zw : Sz j w) (zu : Sz j u) (hj : j ≤ 800)
    (k : ∀ H', Same H H' → Q (.bl (f v r w u)) H') : rOwn C (spSrcCmp K C f) (.ref s) (.ref t) H Q := by
  obtain ⟨d1, a1, b1, e1, _⟩ := id A1
  obtain ⟨d2, a2, b2, e2, _⟩ := id A2
  exact ⟨_, _, _, _, _, _, rfl, rfl, e1, e2, _, _, _, _, _, _, j, rfl, A1, A2, zv, zr, zw, zu, hj, k⟩
theorem strong_trans {v1 r1 v2 r2 v3 r3 : Rat} (h12 : strong v1 r1 v2 r2 = true) (h23 : strong v2 r2 v3 r3 = true) (p1 : 0 ≤ v1) (p2 : 0 ≤ v2) (p3 : 0 ≤ v3) (q3 : 0 ≤ r3) : strong v1 r1 v3 r3 = true := by
  obtain ⟨a1, a2⟩ := strong_iff.mp h12
  obtain ⟨b1, b2⟩ := strong_iff.mp h23
  refine strong_iff.mpr ⟨Rat.le_trans b1 a1, ?_⟩
  rcases Rat.le_iff_lt_or_eq.mp p2 with hp | hz
  · refine Rat.not_lt.mp fun z => ?_
    have c1 := Rat.mul_le_mul_of_nonneg_right a2 p3
    have c2 := Rat.mul_le_mul_of_nonneg_right b2 p1
    have c3 := Rat.mul_lt_mul_of_pos_right z hp
    grind
  · have e : v3 = 0 := Rat.le_antisymm (by rw [← hz] at b1; exact b1) p3
    rw [e, Rat.zero_mul]
    exact Rat.mul_nonneg p1 q3
theorem SrcAt.butL {K : PySem.W.Frag} {C : Addr} {H H' : Hp} {s p : Addr} {v r : Rat} {ys : List V} (h : SrcAt K C H s v r) (hp : H p = some (.lst ys)) (B : But p H H') : SrcAt K C H' s v r := by
  obtain ⟨dx, a, b, h1, h2, h3, h4⟩ := h
  exact ⟨dx, a, b, B _ _ (fun e => by rw [e, hp] at h1; cases h1) h1, seqT_but hp B h2, seqT_but hp B h3, h4⟩
theorem Pot.butA {H H' : Hp} {p A : Addr} {n : Int} (hP : Pot H p n) (h : p ≠ A) (B : But A H H') : Pot H' p n := by
  obtain ⟨x, y, z, hp, hh⟩ := hP
  exact ⟨x, y, z, B _ _ h hp, hh⟩
theorem Pot.ne {H : Hp} {p A : Addr} {n : Int} (hP : Pot H p n) (h : H A = none) : p ≠ A := by
  obtain ⟨_, _, _, hp, _⟩ := hP
  exact ne_of_none hp h
theorem rgV_at {j i : Nat} {x : V} (h : (rgV 0 j)[i]? = some x) : x = .int i ∧ i < j := by
  unfold rgV at h
  rw [List.getElem?_map] at h
  have e : ((j : Int) - 0).toNat = j := by omega
  rw [e] at h
  rcases Nat.lt_or_ge i j with hi | hi
  · rw [List.getElem?_range hi] at h
    have h2 : V.int (0 + (i : Int)) = x := Option.some.inj h
    rw [← h2, Int.zero_add]
    exact ⟨rfl, hi⟩
  · rw [List.getElem?_eq_none (by rw [List.length_range]; exact hi)] at h
    cases h
end My

/-! own layer, 7: sources put together -/
namespace My
open PySem PySem.Spec PyProof.Rows L2
/-- two sources, a new source of them -/
def spSrc2 (K : PySem.W.Frag) (C : Addr) (pre : Rat → Rat → Prop) (fv fr : Rat → Rat → Rat → Rat → Rat) : Sp := fun vs H Q _ => ∃ (s t : Addr) (v r w u : Rat) (j : Nat), vs = [.ref s, .ref t] ∧ SrcAt K C H s v r ∧ SrcAt K C H t w u ∧ Sz j v ∧ Sz j r ∧ Sz j w ∧ Sz j u ∧ j ≤ 400 ∧ pre r u ∧
  ∀ (p : Addr) (H' : Hp), Same H H' → H p = none → SrcAt K C H' p (fv v r w u) (fr v r w u) → Q (.ref p) H'
abbrev spSrcAdd (K : PySem.W.Frag) (C : Addr) : Sp := spSrc2 K C (fun _ _ => True) (fun v _ w _ => v + w) (fun _ r _ u => r + u)
abbrev spSrcAnd (K : PySem.W.Frag) (C : Addr) : Sp := spSrc2 K C (fun r u => 0 < r + u) (fun v r w u => (v * u + w * r) / (r + u)) (fun _ r _ u => r * u / (r + u))
def spSrcEq (K : PySem.W.Frag) (C : Addr) : Sp := fun vs H Q _ => ∃ (s t : Addr) (v r w u : Rat), vs = [.ref s, .ref t] ∧ SrcAt K C H s v r ∧ SrcAt K C H t w u ∧ ∀ H', Same H H' → Q (.bl (decide (v = w) && decide (r = u))) H'
/-- so many times a source -/
def spMany (K : PySem.W.Frag) (C : Addr) : Sp := fun vs H Q _ => ∃ (s : Addr) (m : Int) (v r : Rat) (j : Nat), vs = [.ref s, .int m] ∧ SrcAt K C H s v r ∧ 0 ≤ m ∧ m.natAbs < 2 ^ j ∧ Sz j v ∧ Sz j r ∧ 0 < j ∧ j ≤ 400 ∧
  ∀ (p : Addr) (H' : Hp), Same H H' → H p = none → SrcAt K C H' p (v * (m : Rat)) r → Q (.ref p) H'
theorem add_nn {p q : Rat} (hp : 0 ≤ p) (hq : 0 ≤ q) : 0 ≤ p + q := Rat.add_nonneg hp hq
theorem num_zero {p : Rat} (h : 0 < p) : ¬ p.num = 0 := by
  have := pos_num h
  omega
section
variable {K : PySem.W.Frag} {H : Hp} {Q : VK} {C : Addr} {s t : Addr} {v r w u : Rat} {j : Nat}
theorem i_src2 {pre : Rat → Rat → Prop} {fv fr : Rat → Rat → Rat → Rat → Rat} (A1 : SrcAt K C H s v r) (A2 : SrcAt K C H t w u) (zv : Sz j v) (zr : Sz j r) (zw : Sz j w) (zu : Sz j u) (hj : j ≤ 400) (hp : pre r u)
    (k : ∀ (p : Addr) (H' : Hp), Same H H' → H p = none → SrcAt K C H' p (fv v r w u) (fr v r w u) → Q (.ref p) H') : rOwn C (spSrc2 K C pre fv fr) (.ref s) (.ref t) H Q := by
  obtain ⟨d1, a1, b1, e1, _⟩ := id A1
  obtain ⟨d2, a2, b2, e2, _⟩ := id A2
  exact ⟨_, _, _, _, _, _, rfl, rfl, e1, e2, _, _, _, _, _, _, j, rfl, A1, A2, zv, zr, zw, zu, hj, hp, k⟩
end
end My

/-! own layer, 8: operators of an own instance and an integer -/
namespace My
open PySem PySem.Spec PyProof.Rows L2
theorem lk {M : Model} {A : Around} {α β : Type} {t : Sem α} {r : α} {f : α → Sem β} {Q : β → Shared → Prop} {E : Value → Shared → Prop} {s : Shared} (hl : PySem.W.Looks M s.heap t r) (h : wpAny M A (f r) Q E s) : wpAny M A (t >>= f) Q E s := wpAny_bind (hl.here h)
theorem lkp {M : Model} {A : Around} {α β : Type} {t : Sem α} {r : α} {f : α → Sem β} {Q : β → Shared → Prop} {E : Value → Shared → Prop} {s : Shared} (hl : t = pure r) (h : wpAny M A (f r) Q E s) : wpAny M A (t >>= f) Q E s := lk (.of_pure hl) h
/-- x op i of an own instance and an integer; i op x, reflected -/
def rOwnI (C : Addr) (sp : Sp) : R2 := fun x y H Q => ∃ (i : Int) (a dx : Addr) (fs : List (Str × V)), x = .ref a ∧ y = .int i ∧ H a = some (.ins C dx fs) ∧ sp [x, y] H Q E0
def rOwnR (C : Addr) (sp : Sp) : R2 := fun x y H Q => ∃ (i : Int) (a dx : Addr) (fs : List (Str × V)), x = .int i ∧ y = .ref a ∧ H a = some (.ins C dx fs) ∧ sp [y, x] H Q E0
/-- what is asked of a class that is multiplied with integers -/
structure MulI (K : PySem.W.Frag) (C : Addr) : Prop where
  m : ∃ g, PySem.W.findIn K (.ref C) "__mul__" = some (some (.ref g))
  r : ∃ g, PySem.W.findIn K (.ref C) "__rmul__" = some (some (.ref g))
  fo : ∃ x, PySem.W.findIn K (.type "int") "__mul__" = some x
  ro : ∃ x, PySem.W.findIn K (.type "int") "__rmul__" = some x
  s1 : PySem.W.subIn K (.type "int") (.ref C) = some false
  s2 : PySem.W.subIn K (.ref C) (.type "int") = some false
section
variable {X : Cx} {CX : CXT} {k : Nat} {m qual : Str} {st : Stmt} {sp : Sp} {C : Addr}
theorem op_ownI (g : GOp X.K C "__mul__" qual st) (F : FnAt X.prog X.w X.K X.mg X.base CX k (He.ma X.K C "__mul__") ["self", "other"] sp) (hr : Room k X.A) (hc : PySem.W.selfFirst X.K C = true) (y : MulI X.K C)
    (hx : Passes CX X E0 := by first | exact pass0 | exact passL) : OpR X (binaryOp .Mult) (rOwnI C sp) := by
  intro pins s σ H x y' v u Q I rx ry h
  obtain ⟨i, a, dx, fs, rfl, rfl, ha, hsp⟩ := h
  cases rx
  obtain ⟨tk, rfl⟩ := ry
  obtain ⟨mA, J, _⟩ := ins_get I.hok ha
  obtain ⟨od, J, _⟩ := J.look
  obtain ⟨mm, hF⟩ := I.fr
  obtain ⟨g1, y1⟩ := y.r
  obtain ⟨x1, y2⟩ := y.fo
  obtain ⟨x2, y3⟩ := y.ro
  refine PySem.W.ksp_binT (T := "int") hF I.ok.mod.kin J rfl hc g.at_ g.fn y1 (.inr ⟨g1, rfl⟩) y2 y3 y.s1 ?_
  exact thn (run_fn (vs := [.ref a, .int i]) F hr g.b .nil hx I (.cons rfl (.cons ⟨tk, rfl⟩ .nil)) hsp) fun r s' q => back_of q
theorem op_ownR (g : GOp X.K C "__rmul__" qual st) (F : FnAt X.prog X.w X.K X.mg X.base CX k (He.ma X.K C "__rmul__") ["self", "other"] sp) (hr : Room k X.A) (hc : PySem.W.selfFirst X.K C = true) (y : MulI X.K C)
    (hx : Passes CX X E0 := by first | exact pass0 | exact passL) : OpR X (binaryOp .Mult) (rOwnR C sp) := by
  intro pins s σ H x y' v u Q I rx ry h
  obtain ⟨i, a, dx, fs, rfl, rfl, ha, hsp⟩ := h
  obtain ⟨tk, rfl⟩ := rx
  cases ry
  obtain ⟨mA, J, _⟩ := ins_get I.hok ha
  obtain ⟨od, J, _⟩ := J.look
  obtain ⟨mm, hF⟩ := I.fr
  have hK : X.K.In s.heap := fun b o e => hF.keep b o (I.ok.mod.kin b o e)
  obtain ⟨g1, y1⟩ := y.m
  obtain ⟨cd, rest, hcl, hmro⟩ := PySem.W.ksp_first hc
  unfold binaryOp
  refine wpAny_holding ?_
  refine wpAny_bind ?_
  unfold binaryOp1
  refine lkp (r := .type "int") rfl ?_
  refine lk J.type ?_
  refine lkp PyProof.Rows.fills_int_mul ?_
  have e : (Value.type "int" == Value.ref C) = false := rfl
  simp only [e]
  refine lk (PySem.W.fills_K hK hcl hmro y1) ?_
  rw [if_pos (show (true && true) = true from rfl)]
  refine lk (PySem.W.looks_subIn hK y.s2) ?_
  rw [if_neg (show ¬ (false = true) from Bool.false_ne_true)]
  rw [if_pos (show (true && true && !false) = true from rfl)]
  refine lkp (r := false) rfl ?_
  rw [if_neg (show ¬ (false = true) from Bool.false_ne_true)]
  rw [if_pos (show True from trivial)]
  refine wpAny_bind ?_
  unfold tryMethod
  refine wpAny_bind ?_
  refine wpAny_callSpecial?_slot (T := "int") rfl PyProof.Rows.slot_int_mul ?_
  refine wpAny_call_entry (b := Builtin.«int.__mul__») PyProof.Rows.slot_int_mul rfl PyProof.Rows.entry_int_mul ?_
  · unfold Builtin.«int.__mul__» Builtin.Int.intBinary
    refine lkp (r := (Value.int i tk, [Value.ref a])) rfl ?_
    refine lkp (r := i) rfl ?_
    have hl : PySem.W.Looks (model X.prog X.w) s.heap (asInt? (Value.ref a)) none := .andThen (.ld J.at_) .now
    refine lk hl ?_
    refine (PySem.W.Looks.tag .now).here ⟨_, rfl, ?_⟩
    refine (PySem.W.Looks.now (a := (none : Option Value))).here ?_
    show wpAny _ _ (if false = true then _ else _) _ _ _
    rw [if_neg (show ¬ (false = true) from Bool.false_ne_true)]
    rw [if_pos (show (true && !false) = true from rfl)]
    refine wpAny_bind ?_
    refine thn (PySem.W.ksp_try hK J g.at_ g.fn (thn (run_fn (vs := [.ref a, .int i]) F hr g.b .nil hx I (.cons rfl (.cons ⟨tk, rfl⟩ .nil)) hsp) fun r s' q => back_of q)) fun r s' hq => ?_
    obtain ⟨v, rfl, q⟩ := hq
    refine (PySem.W.Looks.tag .now).here ?_
    exact PySem.W.Looks.now.here q
end
end My

/-! own layer, 9: != by an own == -/
namespace My
open PySem PySem.Spec PyProof.Rows L2
theorem ns_at {K : PySem.W.Frag} {h : Heap} {N : Addr} {x : Str} {r : Option Value} (hK : K.In h) (e : PySem.W.nsIn K N x = some r) : h.nsMap N x = r := by
  unfold PySem.W.nsIn at e
  split at e
  · rename_i oc od es ep sl hl
    have g := hK _ _ hl
    unfold Heap.nsMap
    rw [g]
    show nsFind es x = r
    unfold nsFind findBy
    rw [← Array.find?_toList]
    split at e
    · rename_i q hq
      rw [hq]
      exact Option.some.inj e
    · rename_i hq
      rw [hq]
      split at e
      · cases e
      · exact Option.some.inj e
  · cases e
/-- what != asks of a class with an own __eq__ and no __ne__ -/
def neB (K : PySem.W.Frag) (C : Addr) : Bool := match K.lookup C with
  | some ⟨.type "type", _, .cls cd, sl⟩ => match cd.mro, sl.toList with
    | [.ref C', .type o], [_, _, _, _, some (.builtin _), _] => C' == C && (o == "object" && (!cd.hasDel && (PySem.W.nsOkIn K cd.ns && (He.eqO (PySem.W.nsIn K cd.ns "__eq__") (some (some (.ref (He.ma K C "__eq__")))) && He.eqO (PySem.W.nsIn K cd.ns "__ne__") (some none)))))
    | _, _ => false
  | _ => false
theorem neB_ok {K : PySem.W.Frag} {h : Heap} {C x : Addr} {ox of : Obj} (hK : K.In h) (nb : neB K C = true) (hf : h.get? (He.ma K C "__eq__") = some of) (hc : of.cls = .type "function") (hx : h.get? x = some ox) (hxc : ox.cls = .ref C) : h.OwnEqNoNe x C (He.ma K C "__eq__") "object" [.type "object"] := by
  unfold neB at nb
  split at nb
  · rename_i dd cd sl hl
    split at nb
    · rename_i C' o k0 k1 k2 k3 nw k5 hm hs
      obtain ⟨e1, nb⟩ := He.ba nb
      obtain ⟨e2, nb⟩ := He.ba nb
      obtain ⟨e3, nb⟩ := He.ba nb
      obtain ⟨e4, nb⟩ := He.ba nb
      obtain ⟨e5, e6⟩ := He.ba nb
      have e1 := eq_of_beq e1
      have e2 := eq_of_beq e2
      subst e1 e2
      have hsl : sl = #[k0, k1, k2, k3, some (.builtin nw), k5] := by
        rw [← Array.toArray_toList (xs := sl), hs]
      have g := hK _ _ hl
      rw [hsl] at g
      obtain ⟨nm, bs, mro, ns, q, hd, sn, sub, ab, col, del⟩ := cd
      simp only at hm e3 e4 e5 e6 g
      subst hm
      have e3 : del = false := by
        cases del
        · rfl
        · cases e3
      subst e3
      exact ⟨ox, of, nm, q, ns, bs, hd, sn, sub, ab, col, dd, k0, k1, k2, k3, k5, nw, h.nsMap ns, _, hx, hxc, g, Heap.Ns.of_isNs (PySem.W.isNs_of_in hK e4), ns_at hK (He.eqO_ok e5), hf, hc, PySem.F.cmp_object.mro, PySem.F.cmp_object.eq.lookup, ns_at hK (He.eqO_ok e6)⟩
    · cases nb
  · cases nb
/-- the same place, one row deeper -/
abbrev in1 (X : Cx) : Cx := { X with A := X.A.in1 }
section
variable {X : Cx} {CX : CXT} {k : Nat} {m qual : Str} {st : Stmt} {sp : Sp} {C : Addr}
theorem inv_up {pins : List (Addr × Obj)} {σ : L2.St} {H : Hp} {s : Shared} (I : L2.Inv X pins σ H s) : L2.Inv (in1 X) pins σ H s :=
  ⟨⟨I.ok.mod, I.ok.kind, I.ok.glob, I.ok.blt, I.ok.above, I.ok.inj, I.ok.has, I.ok.cab, I.ok.hd, I.ok.frames, I.ok.stk, I.ok.exf, I.ok.bs, I.ok.bsz, I.ok.noex, I.ok.exfs, I.ok.funs, I.ok.frf⟩, I.os, I.bare, I.base, I.loc, I.cell, I.free, I.freeC, I.pin, I.hok, I.len⟩
theorem inv_dn {pins : List (Addr × Obj)} {σ : L2.St} {H : Hp} {s : Shared} (I : L2.Inv (in1 X) pins σ H s) : L2.Inv X pins σ H s :=
  ⟨⟨I.ok.mod, I.ok.kind, I.ok.glob, I.ok.blt, I.ok.above, I.ok.inj, I.ok.has, I.ok.cab, I.ok.hd, I.ok.frames, I.ok.stk, I.ok.exf, I.ok.bs, I.ok.bsz, I.ok.noex, I.ok.exfs, I.ok.funs, I.ok.frf⟩, I.os, I.bare, I.base, I.loc, I.cell, I.free, I.freeC, I.pin, I.hok, I.len⟩
/-- x != y of two instances of one class: not its own == -/
def rOwnN (C : Addr) (sp : Sp) : R2 := fun x y H Q => ∃ a b dx dy fs gs, x = .ref a ∧ y = .ref b ∧ H a = some (.ins C dx fs) ∧ H b = some (.ins C dy gs) ∧ sp [x, y] H (fun v H' => ∃ k, v = .bl k ∧ Q (.bl (!k)) H') E0
theorem ne_own (nb : neB X.K C = true) (g : GOp X.K C "__eq__" qual st) (F : FnAt X.prog X.w X.K X.mg X.base CX k (He.ma X.K C "__eq__") ["self", "other"] sp) (hr : Room (k + 1) X.A)
    (hx : Passes CX X E0 := by first | exact pass0 | exact passL) : OpR X (compareOp .NotEq) (rOwnN C sp) := by
  intro pins s σ H x y v u Q I rx ry h
  obtain ⟨a, b, dx, dy, fs, gs, rfl, rfl, ha, hb, hsp⟩ := h
  cases rx
  cases ry
  obtain ⟨mA, J, _⟩ := ins_get I.hok ha
  obtain ⟨mB, J', _⟩ := ins_get I.hok hb
  obtain ⟨od, J, _⟩ := J.look
  obtain ⟨od', J', _⟩ := J'.look
  obtain ⟨mm, hF⟩ := I.fr
  have hK : X.K.In s.heap := fun b o e => hF.keep b o (I.ok.mod.kin b o e)
  have hu : X.A.units + 1 < cLine := by have := hr.un; omega
  obtain ⟨of, hf, hc⟩ : ∃ of, s.heap.get? (He.ma X.K C "__eq__") = some of ∧ of.cls = .type "function" := by
    have h := g.fn
    unfold PySem.W.isFn at h
    have h := eq_of_beq h
    obtain ⟨oc, od, kV, doc, pm, an, cdv, ct, osl, e, hl, hcd⟩ := g.f.ex
    have h : Option.map (fun x => x.cls) (List.lookup (He.ma X.K C "__eq__") X.K) = some (.type "function") := h
    rw [hl] at h
    exact ⟨_, hK _ _ hl, Option.some.inj h⟩
  refine compareOp_ne_ownEq (h := s.heap) PySem.F.cmp_object (neB_ok hK nb hf hc J.at_ J.cls) J'.at_ J'.cls hu ?_
  have hx1 : Passes CX (in1 X) E0 := fun pins σ H s e s' I' c => hx pins σ H s e s' (inv_dn I') c
  refine thn (run_fn (X := in1 X) (vs := [.ref a, .ref b]) F hr.in1 g.b .nil hx1 (inv_up I) (.cons rfl (.cons rfl .nil)) hsp) fun r s' q => ?_
  obtain ⟨v, H', I', rv, ⟨k, rfl, q⟩⟩ := q
  exact ⟨k, rv, ⟨.bl (!k), H', inv_dn I', rfl, q⟩⟩
end
def refB : Option (Option Value) → Bool
  | some (some (.ref _)) => true
  | _ => false
theorem refB_ok {o : Option (Option Value)} (h : refB o = true) : ∃ g, o = some (some (.ref g)) := by
  unfold refB at h
  split at h
  · exact ⟨_, rfl⟩
  · cases h
def mulB (K : PySem.W.Frag) (x : Str) : Bool := refB (PySem.W.findIn K (.ref (He.ga K x)) "__mul__") && (refB (PySem.W.findIn K (.ref (He.ga K x)) "__rmul__") && ((PySem.W.findIn K (.type "int") "__mul__").isSome && ((PySem.W.findIn K (.type "int") "__rmul__").isSome &&
  (decide (PySem.W.subIn K (.type "int") (.ref (He.ga K x)) = some false) && decide (PySem.W.subIn K (.ref (He.ga K x)) (.type "int") = some false)))))
theorem mulB_ok {K : PySem.W.Frag} {x : Str} (h : mulB K x = true) : MulI K (He.ga K x) := by
  obtain ⟨h1, h⟩ := He.ba h
  obtain ⟨h2, h⟩ := He.ba h
  obtain ⟨h3, h⟩ := He.ba h
  obtain ⟨h4, h⟩ := He.ba h
  obtain ⟨h5, h6⟩ := He.ba h
  exact ⟨refB_ok h1, refB_ok h2, Option.isSome_iff_exists.mp h3, Option.isSome_iff_exists.mp h4, of_decide_eq_true h5, of_decide_eq_true h6⟩
section
variable {K : PySem.W.Frag} {H : Hp} {Q : VK} {C : Addr} {s t : Addr} {v r w u : Rat} {j : Nat}
theorem i_srcNe (A1 : SrcAt K C H s v r) (A2 : SrcAt K C H t w u) (k : ∀ H', Same H H' → Q (.bl (!(decide (v = w) && decide (r = u)))) H') : rOwnN C (spSrcEq K C) (.ref s) (.ref t) H Q := by
  obtain ⟨d1, a1, b1, e1, _⟩ := id A1
  obtain ⟨d2, a2, b2, e2, _⟩ := id A2
  exact ⟨_, _, _, _, _, _, rfl, rfl, e1, e2, _, _, _, _, _, _, rfl, A1, A2, fun H' S => ⟨_, rfl, k H' S⟩⟩
theorem i_srcEq (A1 : SrcAt K C H s v r) (A2 : SrcAt K C H t w u) (k : ∀ H', Same H H' → Q (.bl (decide (v = w) && decide (r = u))) H') : rOwn C (spSrcEq K C) (.ref s) (.ref t) H Q := by
  obtain ⟨d1, a1, b1, e1, _⟩ := id A1
  obtain ⟨d2, a2, b2, e2, _⟩ := id A2
  exact ⟨_, _, _, _, _, _, rfl, rfl, e1, e2, _, _, _, _, _, _, rfl, A1, A2, k⟩
theorem i_manyI {m : Int} (A1 : SrcAt K C H s v r) (m0 : 0 ≤ m) (mz : m.natAbs < 2 ^ j) (zv : Sz j v) (zr : Sz j r) (j0 : 0 < j) (hj : j ≤ 400) (k : ∀ (p : Addr) (H' : Hp), Same H H' → H p = none → SrcAt K C H' p (v * (m : Rat)) r → Q (.ref p) H') : rOwnI C (spMany K C) (.ref s) (.int m) H Q := by
  obtain ⟨d1, a1, b1, e1, _⟩ := id A1
  exact ⟨m, _, _, _, rfl, rfl, e1, _, m, v, r, j, rfl, A1, m0, mz, zv, zr, j0, hj, k⟩
theorem i_manyR {m : Int} (A1 : SrcAt K C H s v r) (m0 : 0 ≤ m) (mz : m.natAbs < 2 ^ j) (zv : Sz j v) (zr : Sz j r) (j0 : 0 < j) (hj : j ≤ 400) (k : ∀ (p : Addr) (H' : Hp), Same H H' → H p = none → SrcAt K C H' p (v * (m : Rat)) r → Q (.ref p) H') : rOwnR C (spMany K C) (.int m) (.ref s) H Q := by
  obtain ⟨d1, a1, b1, e1, _⟩ := id A1
  exact ⟨m, _, _, _, rfl, rfl, e1, _, m, v, r, j, rfl, A1, m0, mz, zv, zr, j0, hj, k⟩
end
end My

/-! own layer, 10: defs that write values out (no guard stands when they are called) -/
namespace My
open PySem PySem.Spec PyProof.Rows L2
structure FnG (P : Program) (w : World) (K : PySem.W.Frag) (mg : Str → Option Value) (base : Heap) (CX : CXT) (k : Nat) (f : Addr) (fd : FuncData) (ps : List Str) (sp : Sp) : Prop where
  len : ∀ vs H Q E, sp vs H Q E → vs.length = ps.length
  run : ∀ A outer s H args us vs Q E, A.guards = some [] → Room k A → Env0 P w K mg base A outer s H → BindsTo s fd args (ps.zip us) → Vals vs us → sp vs H Q E →
    codeAny (model P w) A (Code.call (.ref f) args) (CR CX outer P w H s Q E) s
section
variable {CX : CXT} {P : Program} {w : World} {K : PySem.W.Frag} {mg : Str → Option Value} {base : Heap} {k : Nat} {f : Addr} {name qual : Str} {params : Arguments} {body : List Stmt} {scope : Scope} {dV kV doc pm cdv ct oc : Value} {an od : Option Addr} {osl : Array (Option Value)} {N ps : List Str} {sp : Sp}
theorem fn_ofG (lk : K.lookup f = some ⟨oc, od, .func (PySem.W.fnOf name qual params body scope dV kV doc pm an cdv ct), osl⟩) (hcd : PySem.W.codeIn K cdv qual = true) (S : FnScope N ps scope) (len : ∀ vs H Q E, sp vs H Q E → vs.length = ps.length)
    (hbody : ∀ (A : Around) (outer : List Env) (s : Shared) (H : Hp) (vs : List V) (Q : VK) (E : XK), A.guards = some [] → Room k (A.deeper (envOfC qual scope s.heap.objs.size f cdv)) → sp vs H Q E →
      ∃ t, PSs (cxOf CX P w K mg base N qual scope f cdv A outer s H E) body t ∧ t { nx := fun _ H' => Q .non H', rt := Q } (L2.start N vs) H) :
    FnG P w K mg base CX (k + 1) f (PySem.W.fnOf name qual params body scope dV kV doc pm an cdv ct) ps sp := by
  refine ⟨len, fun A outer s H args us vs Q E hgd hr e0 hb r hsp => ?_⟩
  have hl := len vs H Q E hsp
  have KX : K.In s.heap := fun b o e => (e0.bs b o (e0.mod.kin b o e)).1
  have lim := e0.mod.nolimit.keeps fun b o e => (e0.bs b o e).1
  refine codeAny_call_function hr.depth (KX f _ lk) rfl S.co S.gen rfl (PySem.W.codeRec_of KX hcd) ?_
  refine hb _ _ _ _ ?_
  refine wpAny_newFunctionEnv_cells S.kind ?_ ?_
  · rintro ⟨n, v⟩ hy
    rcases S.par n (List.of_mem_zip hy).1 with q | q
    · exact .inl q
    · exact .inr ⟨q, PySem.W.cellsFrom_some scope.names (s.heap.objs.size + 1) [] (.inl q)⟩
  · intro env he s1 x
    subst he
    refine ⟨lim.keeps x.toInCall.keep, codeAny_func ?_⟩
    obtain ⟨t, ht, hq⟩ := hbody A outer s H vs Q E hgd (hr.deeper _) hsp
    have I := inv_start (CX := CX) (E := E) S hr.hd e0 hl r x
    refine wpAny_mono (ht.run [] s1 (L2.start N vs) H _ I hq) (fun fl s' hs => ?_) fun e s' hs => hs
    cases fl with
    | ret u =>
      obtain ⟨v, σ', H', J, rv, q⟩ := hs
      exact ⟨v, H', J.os, J.bare, J.base, J.hok, rv, q⟩
    | next =>
      obtain ⟨σ', H', J, q⟩ := hs
      exact ⟨.non, H', J.os, J.bare, J.base, J.hok, rfl, q⟩
    | brk =>
      obtain ⟨_, _, _, q⟩ := hs
      exact q.elim
    | cont =>
      obtain ⟨_, _, _, q⟩ := hs
      exact q.elim
end
section
variable {X : Cx} {CX : CXT} {k : Nat} {f : Addr} {fd : FuncData} {ps : List Str} {sp : Sp} {dvs : List V} {ds : List Value} {E : XK} {pins : List (Addr × Obj)} {σ : L2.St} {H : Hp} {s : Shared} {Q : VK} {us : List Value} {vs : List V}
theorem run_fnG (F : FnG X.prog X.w X.K X.mg X.base CX k f fd ps sp) (hgd : X.A.guards = some []) (hr : Room k X.A) (hb : L2.Binds X.K fd ps ds) (hd : Vals dvs ds) (hx : Passes CX X E) (I : L2.Inv X pins σ H s) (r : Vals vs us) (h : sp (vs ++ dvs) H Q E) :
    wpAny (model X.prog X.w) X.A (call (.ref f) us) (EP X pins σ Q) X.xe s := by
  have r2 := Vals.append r hd
  have hl : (us ++ ds).length = ps.length := by
    rw [← Vals.length r2]
    exact F.len _ _ _ _ h
  refine wpAny_call (codeAny_mono (F.run X.A X.stack s H ⟨us, []⟩ (us ++ ds) (vs ++ dvs) Q E hgd hr I.env0 (hb s us I.kIn hl) r2 h) fun r s' hq => ?_)
  cases r with
  | error e => exact hx pins σ H s e s' I hq
  | ok fl =>
    cases fl with
    | ret v => exact I.after hq
    | _ => exact False.elim hq
variable {x m qual : Str} {st : Stmt} {p pos : Pos} {e : Expr} {es : List Expr} {t : TA}
abbrev FnGAt (P : Program) (w : World) (K : PySem.W.Frag) (mg : Str → Option Value) (base : Heap) (CX : CXT) (k : Nat) (a : Addr) (ps : List Str) (sp : Sp) : Prop := FnG P w K mg base CX k a (fdOf K a) ps sp
theorem pe_fnG (g : GFn X.K X.mg x st ps) (F : FnGAt X.prog X.w X.K X.mg X.base CX k (He.ga X.K x) ps sp) (hgd : X.A.guards = some []) (hr : Room k X.A) (ha : PA X (e :: es) t) (hx : Passes CX X E := by first | exact pass0 | exact passL) (hg : Gl X x := by rfl)
    (hdb : (x == ("__debug__" : Str)) = false := by decide) (he : starEach (e :: es) X.env = (false, eval e X.env) :: starEach es X.env := by rfl) (hpl : (backTo pos (starEach es X.env)).any (·.1) = false := by rfl) :
    PE X (.Call (.Name x p) (e :: es) [] pos) (tCall sp [] E t) := by
  refine ⟨fun pins s σ H Q I h => ?_⟩
  refine wpAny_Call_Name_kw ?_
  refine ld_glob I hg g.m ?_ hdb
  refine PySem.W.callWith_K I.ok.mod.kin g.f.kp (thn (ha.run pos pins s σ H (fun vs H1 => sp (vs ++ []) H1 Q E) I h) ?_) he hpl
  rintro us s1 ⟨vs, H1, I1, r, q⟩
  exact ⟨I1.kIn, run_fnG F hgd hr g.b .nil hx I1 r q⟩
/-- repr of data -/
def rReprD (K : PySem.W.Frag) : List V → Hp → VK → Prop := fun xs H Q => ∃ (a : Addr) (d : PyData), xs = [.ref a] ∧ Dp K H (.ref a) d ∧ d.showable = true ∧ d.hasDict = false ∧ d.depth < 100 ∧ d.shown.length ≤ sizeLine ∧ Q (.str d.shown) H
theorem cr_reprD (hgd : X.A.guards = some []) (hr : Room k X.A) : CallR X (.builtin "repr") (rReprD X.K) := by
  intro pins s σ H xs us Q I r h
  obtain ⟨a, d, rfl, hd, h1, h2, h3, h4, q⟩ := h
  cases r with
  | cons r1 rr =>
    cases rr
    cases r1
    obtain ⟨as, R⟩ := Dp.reads I d _ _ hd rfl
    have hu := hr.un
    have hz : X.A.units + (d.depth + 1) < cLine := Nat.lt_of_le_of_lt (by omega : X.A.units + (d.depth + 1) ≤ X.A.units + 16 * k + 200) hu
    have hdn : d.hasDict = true → ¬ sysModules ∈ as := fun z => by rw [h2] at z; cases z
    refine repr_of_reads' R h1 hdn hgd hz (fun _ _ e => e) (fun h' u tk hk => ?_) h4
    exact ⟨.str d.shown, H, I.kept hk, ⟨u, rfl⟩, q⟩
end
section
variable {P : Program} {w : World} {K : PySem.W.Frag} {mg mb : Str → Option Value} {k : Nat} {fa a : Addr} {fd : FuncData} {x : Str} {sp : Sp} {s₁ : Shared} {vs : List Value} {ns : List Int}
/-- the list that a law is asked with -/
abbrev scriptO (vs : List Value) : Obj := ⟨.type "list", none, .seq vs.toArray 0, #[]⟩
theorem callG_core (KX : K.In s₁.heap) (hns : s₁.heap.Ns mainGlobals mg) (hb : s₁.heap.Ns builtinsNs mb) (hbb : ∀ x : Str, x ≠ "__name__" → mb x = bootBuiltins x) (hlim : s₁.heap.NoLimit) (hg : s₁.gens = #[]) (ha : s₁.heap.get? a = some (scriptO vs)) (hr : Room k callerA)
    (F : ∀ base : Heap, K.In base → base.Ns mainGlobals mg → FnG P w K mg base CX0 k fa fd [x] sp) (hbind : ∀ (s : Shared) (u : Value), BindsTo s fd ⟨[u], []⟩ [(x, u)]) {H : Hp} (hO : Only H) (hq : sp [.ref a] H (fun v _ => v = .bl true) E0) (hok : HOk P w H s₁.heap) (hA : ∀ b, H b ≠ none → b = a) (hK : H a ≠ none → K.lookup a = none) :
    codeAny (model P w) callerA (Code.call (.ref fa) ⟨[.ref a], []⟩) (fun r s' => r = Except.ok (Flow.ret (.bool true)) ∧ OldK s₁.heap s'.heap ∧ s'.os = s₁.os ∧ AllBare s'.gens) s₁ := by
  have at_ : ∀ {b : Addr} {o : Obj}, s₁.heap.get? b = some o → H b = none → (hidT s₁.heap H).get? b = some o := fun e n => hidT_get e n
  have noA : ∀ {b : Addr} {o : Obj} {es : Array DictEntry} {ep : Nat}, s₁.heap.get? b = some o → o.data = .dict es ep → H b = none := by
    intro b o es ep e d
    cases h : H b with
    | none => rfl
    | some u =>
      obtain rfl := hA b (by rw [h]; intro z; cases z)
      rw [ha] at e
      cases e
      cases d
  have nsK : ∀ {b : Addr} {m : Str → Option Value}, s₁.heap.Ns b m → (hidT s₁.heap H).Ns b m := by
    rintro b m ⟨o, es, ep, e, d, r⟩
    exact ⟨o, es, ep, at_ e (noA e d), d, r⟩
  have hKb : K.In (hidT s₁.heap H) := by
    intro b o e
    refine at_ (KX b o e) ?_
    cases h : H b with
    | none => rfl
    | some u =>
      have hn : H b ≠ none := by rw [h]; intro z; cases z
      obtain rfl := hA b hn
      rw [hK hn] at e
      cases e
  have hM : L2.Mod K mg (hidT s₁.heap H) := ⟨hKb, nsK hns, ⟨mb, nsK hb, hbb⟩, by obtain ⟨mc, h1, h2⟩ := hlim; exact ⟨mc, nsK h1, h2⟩⟩
  have e0 : Env0 P w K mg (hidT s₁.heap H) callerA [] s₁ H := ⟨rfl, hM, fun b o e => of_hidT e, Nat.le_of_eq (hidT_size _ _), trivial, (fun b z => by cases z), hok, AllBare.of_eq hg⟩
  refine codeAny_mono ((F _ hKb (nsK hns)).run callerA [] s₁ H ⟨[.ref a], []⟩ [.ref a] [.ref a] (fun v _ => v = .bl true) E0 rfl hr e0 (hbind s₁ (.ref a)) (.cons rfl .nil) hq) fun r s' h => ?_
  cases r with
  | error e => exact False.elim h
  | ok fl =>
    cases fl with
    | ret u =>
      obtain ⟨v, H', os, bare, un, hok', r', q⟩ := h
      subst q
      cases r'
      refine ⟨rfl, OldK.of_keep fun b o e => ?_, os, bare⟩
      cases h : H b with
      | none => exact un.keep b o e h (fun z => by cases z) (fun z => by cases z)
      | some u =>
        rcases hO b with z | ⟨ob, xs, z⟩
        · rw [h] at z
          cases z
        · have h1 := (hok b _ z).1
          have h2 := (hok' b _ (un.frzs _ _ _ z)).1
          rw [e] at h1
          cases h1
          exact h2
    | _ => exact False.elim h
theorem law_callG (KX : K.In s₁.heap) (hns : s₁.heap.Ns mainGlobals mg) (hb : s₁.heap.Ns builtinsNs mb) (hbb : ∀ x : Str, x ≠ "__name__" → mb x = bootBuiltins x) (hlim : s₁.heap.NoLimit) (hg : s₁.gens = #[]) (ha : s₁.heap.get? a = some (scriptO vs)) (hr : Room k callerA)
    (F : ∀ base : Heap, K.In base → base.Ns mainGlobals mg → FnG P w K mg base CX0 k fa fd [x] sp) (hbind : ∀ (s : Shared) (u : Value), BindsTo s fd ⟨[u], []⟩ [(x, u)]) (hi : IntsAre vs ns) (hl : ns.length ≤ sizeLine) (hsp : ∀ H, Only H → SqL K H a (ns.map V.int) → sp [.ref a] H (fun v _ => v = .bl true) E0) :
    codeAny (model P w) callerA (Code.call (.ref fa) ⟨[.ref a], []⟩) (fun r s' => r = Except.ok (Flow.ret (.bool true)) ∧ OldK s₁.heap s'.heap ∧ s'.os = s₁.os ∧ AllBare s'.gens) s₁ := by
  have rv := vals_ints hi
  have lenV := IntsAre.length hi
  cases h : K.lookup a with
  | none =>
    have hH : ∀ b, (fun b => if b = a then some (HO.frz (scriptO vs) (.lst (ns.map V.int))) else none : Hp) b = none ∨ b = a := by
      intro b
      by_cases hb : b = a
      · exact .inr hb
      · exact .inl (if_neg hb)
    have hO : Only (fun b => if b = a then some (HO.frz (scriptO vs) (.lst (ns.map V.int))) else none) := by
      intro b
      rcases hH b with z | z
      · exact .inl z
      · exact .inr ⟨_, _, if_pos z⟩
    refine callG_core KX hns hb hbb hlim hg ha hr F hbind hO (hsp _ hO (.inl (.inr ⟨_, if_pos rfl⟩))) ?_ ?_ (fun _ => h)
    · intro b u z
      rcases hH b with e | e
      · rw [e] at z
        cases z
      · subst e
        have z : some (HO.frz (scriptO vs) (.lst (ns.map V.int))) = some u := (if_pos rfl).symm.trans z
        cases z
        exact ⟨ha, by rw [List.length_map]; exact hl, vs, 0, rv, ha⟩
    · intro b z
      rcases hH b with e | e
      · exact absurd e z
      · exact e
  | some o =>
    have e := KX a o h
    rw [ha] at e
    cases e
    have hO : Only (fun _ => none) := fun _ => .inl rfl
    refine callG_core KX hns hb hbb hlim hg ha hr F hbind hO (hsp _ hO (.inr ⟨_, vs.toArray, 0, h, rfl, rfl, rfl, ?_, rv⟩)) (fun b u z => by cases z) (fun b z => absurd rfl z) (fun z => absurd rfl z)
    rw [List.size_toArray, lenV]
    exact hl
end
theorem walk_ofG {l : PySem.W.OpenLaw} {n k : Nat} {q : Program} {loose : List Str} {XP : (Str → Option Value) → Heap → Prop} {YP : World → Heap → Prop} {d : DefRec} {x : Str} (hn : l.most = some n) (hn2 : n ≤ sizeLine) (hdf : d.params.defaults = []) (hr : Room k callerA)
    (F : ∀ (w : World) (mg : Str → Option Value) (fa : Addr) (h : Heap), YP w h → h.Ns mainGlobals mg → mg d.name = some (.ref fa) → ∃ (K : PySem.W.Frag) (fd : FuncData) (sp : Sp), K.In h ∧ (∀ (s : Shared) (u : Value), BindsTo s fd ⟨[u], []⟩ [(x, u)]) ∧
      (∀ (H : Hp) (a : Addr) (ns : List Int), ns.length ≤ n → Only H → SqL K H a (ns.map V.int) → sp [.ref a] H (fun v _ => v = .bl true) E0) ∧ ∀ base : Heap, K.In base → base.Ns mainGlobals mg → FnG l.prog w K mg base CX0 k fa fd [x] sp) :
    PySem.W.WalkO q loose XP YP l.row.toRowW d [] fun f vs => call f vs := by
  refine Att.attach_call hn hdf fun w s₀ s₁ mg mb fa o pm cd doc a vs ns G Y ho hd hcd hmg hobj hints hlen hg => ?_
  obtain ⟨K, fd, sp, KX, hb, hsp, hF⟩ := F w mg fa s₁.heap Y G.T.g hmg
  exact law_callG KX G.T.g G.T.b G.T.builtins G.T.nolimit hg hobj hr hF hb hints (Nat.le_trans hlen hn2) fun H hO hS => hsp H a ns hlen hO hS
theorem int_repr_le {i : Int} {k : Nat} (hk : 0 < k) (h : i.natAbs < 2 ^ k) : i.repr.length ≤ k + 1 := by
  cases i with
  | ofNat n => exact Nat.le_succ_of_le (nat_repr_length_le hk h)
  | negSucc n =>
    have h2 := nat_repr_length_le (n := n + 1) hk h
    show ("-" ++ Nat.repr (n + 1)).length ≤ k + 1
    rw [String.length_append]
    have e : ("-" : String).length = 1 := rfl
    omega
theorem shown2 (a b : Int) : (PyData.tuple [.int a, .int b]).shown = tupleText [Str.ofString a.repr, Str.ofString b.repr] := by
  simp [PyData.shown, PyData.shownAll]
theorem shown2_le {a b : Int} {k : Nat} (hk : 0 < k) (ha : a.natAbs < 2 ^ k) (hb : b.natAbs < 2 ^ k) : (PyData.tuple [.int a, .int b]).shown.length ≤ 2 * k + 9 := by
  rw [shown2]
  have h := tupleText_len_le [Str.ofString a.repr, Str.ofString b.repr]
  simp only [List.map, List.sum_cons, List.sum_nil, List.length, PySem.ofString_length] at h
  have h1 := int_repr_le hk ha
  have h2 := int_repr_le hk hb
  omega
theorem i_reprRat {K : PySem.W.Frag} {H : Hp} {Q : VK} {a : Addr} {p : Rat} {k : Nat} (hk : 0 < k) (hk2 : k ≤ 1900) (z : Sz k p) (ha : SqT K H a (rat p)) (h : Q (.str (PyData.tuple [.int p.num, .int p.den]).shown) H) : rReprD K [.ref a] H Q :=
  ⟨a, .tuple [.int p.num, .int p.den], rfl, .tup ha (.cons (.int _) (.cons (.int _) .nil)), by simp [PyData.showable, PyData.showableAll]; exact ⟨Nat.lt_of_lt_of_le (log_lt hk z.1) (by omega), Nat.lt_of_lt_of_le (log_lt hk z.2) (by omega)⟩, by simp [PyData.hasDict, PyData.hasDictAll], by simp [PyData.depth, PyData.depthAll], Nat.le_trans (shown2_le hk z.1 z.den) (Nat.le_trans (by omega : 2 * k + 9 ≤ 10000) (by decide +kernel)), h⟩
section
variable {P : Program} {w : World} {K : PySem.W.Frag} {mg : Str → Option Value} {base : Heap} {x qual : Str} {st : Stmt} {f : Addr} {fd : FuncData} {N ps : List Str} {k : Nat} {sp : Sp}
theorem fun_okG (F : Fun K x qual st f fd) (S : FnScope N ps (defScope st)) (len : ∀ vs H Q E, sp vs H Q E → vs.length = ps.length)
    (hb : ∀ (cdv : Value) (A : Around) (outer : List Env) (s : Shared) (H : Hp) (vs : List V) (Q : VK) (E : XK), A.guards = some [] → Room k (A.deeper (envOfC qual (defScope st) s.heap.objs.size f cdv)) → sp vs H Q E →
      ∃ t, PSs (cxOf CX0 P w K mg base N qual (defScope st) f cdv A outer s H E).nox (defBody st) t ∧ t { nx := fun _ H' => Q .non H', rt := Q } (L2.start N vs) H) : FnG P w K mg base CX0 (k + 1) f fd ps sp := by
  obtain ⟨oc, od, kV, doc, pm, an, cdv, ct, osl, e, hl, hc⟩ := F.ex
  subst e
  refine fn_ofG hl hc S len fun A outer s H vs Q E hg hr h => ?_
  obtain ⟨t, h1, h2⟩ := hb cdv A outer s H vs Q E hg hr h
  exact ⟨t, h1.nox, h2⟩
end
end My

/-! what the helpers of one law promise: loads as sources -/
namespace My
open PySem PySem.Spec PyProof.Rows L2
def spRatio (K : PySem.W.Frag) : Sp := fun vs H Q _ => ∃ (p : Addr) (n : Int), vs = [.ref p] ∧ Pot H p n ∧ n < 900000 ∧
  ∀ (a : Addr) (H' : Hp) (q : Rat), But p H H' → Pot H' p (n + 5) → H a = none → SqT K H' a (rat q) → 0 ≤ q → Sz 30 q → Q (.ref a) H'
def spBeside (K : PySem.W.Frag) (C : Addr) : Sp := fun vs H Q _ => ∃ (s a : Addr) (v r g : Rat), vs = [.ref s, .ref a] ∧ SrcAt K C H s v r ∧ SqT K H a (rat g) ∧ Sz 40 v ∧ Sz 40 r ∧ Sz 40 g ∧ 0 < g ∧
  ∀ H', Same H H' → Q (.bl true) H'
def spJoined (K : PySem.W.Frag) (C : Addr) : Sp := fun vs H Q _ => ∃ (s1 s2 s3 : Addr) (v1 r1 v2 r2 v3 r3 : Rat), vs = [.ref s1, .ref s2, .ref s3] ∧ SrcAt K C H s1 v1 r1 ∧ SrcAt K C H s2 v2 r2 ∧ SrcAt K C H s3 v3 r3 ∧
  Sz 40 v1 ∧ Sz 40 r1 ∧ Sz 40 v2 ∧ Sz 40 r2 ∧ Sz 40 v3 ∧ Sz 40 r3 ∧ 0 < r1 ∧ 0 < r2 ∧ 0 < r3 ∧ ∀ H', Same H H' → Q (.bl true) H'
def spCarried (K : PySem.W.Frag) (C : Addr) : Sp := fun vs H Q _ => ∃ (s1 s2 a : Addr) (v1 r1 v2 r2 g : Rat) (m : Int), vs = [.ref s1, .ref s2, .ref a, .int m] ∧ SrcAt K C H s1 v1 r1 ∧ SrcAt K C H s2 v2 r2 ∧ SqT K H a (rat g) ∧
  Sz 40 v1 ∧ Sz 40 r1 ∧ Sz 40 v2 ∧ Sz 40 r2 ∧ Sz 40 g ∧ 0 ≤ g ∧ 0 ≤ m ∧ m.natAbs < 2 ^ 40 ∧ ∀ H', Same H H' → Q (.bl true) H'
theorem ne_zero {p : Rat} (h : 0 < p) : p ≠ 0 := fun z => by rw [z] at h; exact absurd h (by decide)
theorem add_pos {p q : Rat} (hp : 0 < p) (hq : 0 ≤ q) : 0 < p + q := by grind
theorem quot_pos {p q : Rat} (hp : 0 < p) (hq : 0 < q) : 0 < p / q := by
  rw [Rat.div_def]
  exact Rat.mul_pos hp (Rat.inv_pos.mpr hq)
theorem and3v {A B s c z : Rat} (hs : 0 < s) (h : 0 < B / s + c) (h2 : 0 < B + c * s) : (A / s * c + z * (B / s)) / (B / s + c) = (A * c + z * B) / (B + c * s) := by
  have h1 := ne_zero hs
  have h3 := ne_zero h
  have h4 := ne_zero h2
  grind
theorem and3r {B s c : Rat} (hs : 0 < s) (h : 0 < B / s + c) (h2 : 0 < B + c * s) : (B / s * c) / (B / s + c) = (B * c) / (B + c * s) := by
  have h1 := ne_zero hs
  have h3 := ne_zero h
  have h4 := ne_zero h2
  grind
/-- a load is a source of 0 volts behind 1 / g ohms, side by side -/
theorem beside_v {v r g : Rat} (hr : 0 ≤ r) (hg : 0 < g) : v / (1 + r * g) = (v * (1 / g) + 0 * r) / (r + 1 / g) := by
  have h1 := ne_zero hg
  have h2 := ne_zero (one_pos hr (Rat.le_of_lt hg))
  have h3 := ne_zero (show 0 < r + 1 / g from by have := quot_pos (p := 1) (by decide) hg; grind)
  grind
theorem beside_r {r g : Rat} (hr : 0 ≤ r) (hg : 0 < g) : r / (1 + r * g) = r * (1 / g) / (r + 1 / g) := by
  have h1 := ne_zero hg
  have h2 := ne_zero (one_pos hr (Rat.le_of_lt hg))
  have h3 := ne_zero (show 0 < r + 1 / g from by have := quot_pos (p := 1) (by decide) hg; grind)
  grind
theorem beside_v2 {v r g : Rat} (hr : 0 ≤ r) (hg : 0 < g) : v / (1 + r * g) = (0 * r + v * (1 / g)) / (1 / g + r) := by
  rw [beside_v hr hg, Rat.add_comm (0 * r), Rat.add_comm (1 / g) r]
theorem beside_r2 {r g : Rat} (hr : 0 ≤ r) (hg : 0 < g) : r / (1 + r * g) = 1 / g * r / (1 / g + r) := by
  rw [beside_r hr hg, Rat.mul_comm r, Rat.add_comm (1 / g) r]
theorem same_v {v r : Rat} (hr : 0 < r) : (v * r + v * r) / (r + r) = v := by
  have := ne_zero (show 0 < r + r by grind)
  grind
theorem and_comm_v {v r w u : Rat} : (v * u + w * r) / (r + u) = (w * r + v * u) / (u + r) := by rw [Rat.add_comm (v * u), Rat.add_comm r]
theorem and_comm_r {r u : Rat} : r * u / (r + u) = u * r / (u + r) := by rw [Rat.mul_comm r, Rat.add_comm r]
theorem and_assoc_v {v1 r1 v2 r2 v3 r3 : Rat} (p1 : 0 < r1) (p2 : 0 < r2) (p3 : 0 < r3) : ((v1 * r2 + v2 * r1) / (r1 + r2) * r3 + v3 * (r1 * r2 / (r1 + r2))) / (r1 * r2 / (r1 + r2) + r3) = (v1 * (r2 * r3 / (r2 + r3)) + (v2 * r3 + v3 * r2) / (r2 + r3) * r1) / (r1 + r2 * r3 / (r2 + r3)) := by
  have s1 : 0 < r1 + r2 := add_pos p1 (Rat.le_of_lt p2)
  have s2 : 0 < r2 + r3 := add_pos p2 (Rat.le_of_lt p3)
  have q1 : 0 < r1 * r2 / (r1 + r2) + r3 := add_pos (quot_pos (Rat.mul_pos p1 p2) s1) (Rat.le_of_lt p3)
  have q2 : 0 < r2 * r3 / (r2 + r3) + r1 := add_pos (quot_pos (Rat.mul_pos p2 p3) s2) (Rat.le_of_lt p1)
  have t1 : 0 < r1 * r2 + r3 * (r1 + r2) := add_pos (Rat.mul_pos p1 p2) (Rat.le_of_lt (Rat.mul_pos p3 s1))
  have t2 : 0 < r2 * r3 + r1 * (r2 + r3) := add_pos (Rat.mul_pos p2 p3) (Rat.le_of_lt (Rat.mul_pos p1 s2))
  rw [and3v s1 q1 t1, Rat.add_comm (v1 * (r2 * r3 / (r2 + r3))), Rat.add_comm r1 (r2 * r3 / (r2 + r3)), and3v s2 q2 t2]
  have e1 : (v1 * r2 + v2 * r1) * r3 + v3 * (r1 * r2) = (v2 * r3 + v3 * r2) * r1 + v1 * (r2 * r3) := by grind
  have e2 : r1 * r2 + r3 * (r1 + r2) = r2 * r3 + r1 * (r2 + r3) := by grind
  rw [e1, e2]
theorem and_assoc_r {r1 r2 r3 : Rat} (p1 : 0 < r1) (p2 : 0 < r2) (p3 : 0 < r3) : r1 * r2 / (r1 + r2) * r3 / (r1 * r2 / (r1 + r2) + r3) = r1 * (r2 * r3 / (r2 + r3)) / (r1 + r2 * r3 / (r2 + r3)) := by
  have s1 : 0 < r1 + r2 := add_pos p1 (Rat.le_of_lt p2)
  have s2 : 0 < r2 + r3 := add_pos p2 (Rat.le_of_lt p3)
  have q1 : 0 < r1 * r2 / (r1 + r2) + r3 := add_pos (quot_pos (Rat.mul_pos p1 p2) s1) (Rat.le_of_lt p3)
  have q2 : 0 < r2 * r3 / (r2 + r3) + r1 := add_pos (quot_pos (Rat.mul_pos p2 p3) s2) (Rat.le_of_lt p1)
  have t1 : 0 < r1 * r2 + r3 * (r1 + r2) := add_pos (Rat.mul_pos p1 p2) (Rat.le_of_lt (Rat.mul_pos p3 s1))
  have t2 : 0 < r2 * r3 + r1 * (r2 + r3) := add_pos (Rat.mul_pos p2 p3) (Rat.le_of_lt (Rat.mul_pos p1 s2))
  rw [and3r s1 q1 t1, Rat.mul_comm r1 (r2 * r3 / (r2 + r3)), Rat.add_comm r1 (r2 * r3 / (r2 + r3)), and3r s2 q2 t2]
  have e1 : r1 * r2 * r3 = r2 * r3 * r1 := by grind
  have e2 : r1 * r2 + r3 * (r1 + r2) = r2 * r3 + r1 * (r2 + r3) := by grind
  rw [e1, e2]
theorem Sz.andV {j : Nat} {v r w u : Rat} (h1 : Sz j v) (h2 : Sz j r) (h3 : Sz j w) (h4 : Sz j u) (h : 0 < r + u) : Sz (8 * j + 2) ((v * u + w * r) / (r + u)) :=
  ((((h1.mul h4).add (h3.mul h2)).mono (k := 4 * j + 1) (by omega)).div ((h2.add h4).mono (by omega)) h).mono (by omega)
theorem Sz.andR {j : Nat} {r u : Rat} (h2 : Sz j r) (h4 : Sz j u) (h : 0 < r + u) : Sz (8 * j + 2) (r * u / (r + u)) :=
  (((h2.mul h4).mono (k := 4 * j + 1) (by omega)).div ((h2.add h4).mono (by omega)) h).mono (by omega)
theorem strong_same {v r : Rat} (hv : 0 ≤ v) (hr : 0 < r) : strong ((v * r + v * r) / (r + r)) (r * r / (r + r)) v r = true := by
  rw [same_v hr]
  refine strong_iff.mpr ⟨Rat.le_refl, Rat.mul_le_mul_of_nonneg_left ?_ hv⟩
  have h1 := ne_zero (show 0 < r + r by grind)
  have e : r * r / (r + r) = r / 2 := by grind
  rw [e]
  grind
theorem frac_mul {a b c d : Rat} (hb : 0 < b) (hd : 0 < d) : a / b * (c / d) = a * c * (1 / (b * d)) := by
  have h1 := ne_zero hb
  have h2 := ne_zero hd
  grind
theorem strong_under {v r w u g : Rat} (h : strong v r w u = true) (hr : 0 ≤ r) (hu : 0 ≤ u) (hg : 0 ≤ g) : strong (v / (1 + r * g)) (r / (1 + r * g)) (w / (1 + u * g)) (u / (1 + u * g)) = true := by
  refine strong_iff.mpr ⟨Rat.not_lt.mp (due_read h hr hu hg), ?_⟩
  have p1 := one_pos hr hg
  have p2 := one_pos hu hg
  rw [frac_mul p2 p1, frac_mul p1 p2, Rat.mul_comm (1 + u * g)]
  exact Rat.mul_le_mul_of_nonneg_right (strong_iff.mp h).2 (Rat.le_of_lt (quot_pos (by decide) (Rat.mul_pos p1 p2)))
theorem strong_many {v r w u m : Rat} (h : strong v r w u = true) (hm : 0 ≤ m) : strong (v * m) r (w * m) u = true := by
  obtain ⟨h1, h2⟩ := strong_iff.mp h
  refine strong_iff.mpr ⟨Rat.mul_le_mul_of_nonneg_right h1 hm, ?_⟩
  have := Rat.mul_le_mul_of_nonneg_right h2 hm
  have e1 : w * m * r = w * r * m := by grind
  have e2 : v * m * u = v * u * m := by grind
  rw [e1, e2]
  exact this
theorem forq_range {lo : Int} {n : Nat} {g : TG} {tb : TS} {D : Ends} {σ : L2.St} {H : Hp} (Pv : Nat → L2.St → Hp → Prop) (h0 : Pv 0 σ H) (hs : ∀ i σ H, i < n → Pv i σ H → g (.int (lo + i)) σ H fun σ2 H2 => tb { D with nx := Pv (i + 1), ct := Pv (i + 1), bk := D.nx } σ2 H2) (hd : ∀ σ H, Pv n σ H → D.nx σ H) : ForQ (Itr lo n) g tb D σ H := for_range Pv h0 hs hd
theorem num_pos {p : Rat} (h : 0 < p.num) : 0 < p := by
  refine (Rat.lt_iff 0 p).mpr ?_
  simpa using h
/-- a source of ohms above 0 -/
def Src4 (K : PySem.W.Frag) (C : Addr) (H : Hp) (x : V) : Prop := ∃ s v r, x = .ref s ∧ SrcAt K C H s v r ∧ Sz 40 v ∧ Sz 40 r ∧ 0 < r
/-- a ratio above 0 -/
def Rat4 (K : PySem.W.Frag) (H : Hp) (x : V) : Prop := ∃ a g, x = .ref a ∧ SqT K H a (rat g) ∧ Sz 20 g ∧ 0 < g
section
variable {K : PySem.W.Frag} {C p : Addr} {H H' : Hp} {x : V} {n : Int} {ys : List V}
theorem Src4.same (h : Src4 K C H x) (S : Same H H') : Src4 K C H' x := by
  obtain ⟨s, v, r, e, h1, h2⟩ := h
  exact ⟨s, v, r, e, h1.same S, h2⟩
theorem Src4.but (h : Src4 K C H x) (hP : Pot H p n) (B : But p H H') : Src4 K C H' x := by
  obtain ⟨s, v, r, e, h1, h2⟩ := h
  exact ⟨s, v, r, e, h1.but hP B, h2⟩
theorem Src4.butL (h : Src4 K C H x) (hp : H p = some (.lst ys)) (B : But p H H') : Src4 K C H' x := by
  obtain ⟨s, v, r, e, h1, h2⟩ := h
  exact ⟨s, v, r, e, h1.butL hp B, h2⟩
theorem Rat4.same (h : Rat4 K H x) (S : Same H H') : Rat4 K H' x := by
  obtain ⟨a, g, e, h1, h2⟩ := h
  exact ⟨a, g, e, S.seqT h1, h2⟩
theorem Rat4.but (h : Rat4 K H x) (hP : Pot H p n) (B : But p H H') : Rat4 K H' x := by
  obtain ⟨a, g, e, h1, h2⟩ := h
  exact ⟨a, g, e, hP.but B h1, h2⟩
theorem Rat4.butL (h : Rat4 K H x) (hp : H p = some (.lst ys)) (B : But p H H') : Rat4 K H' x := by
  obtain ⟨a, g, e, h1, h2⟩ := h
  exact ⟨a, g, e, seqT_but hp B h1, h2⟩
end
theorem under_two {q v r g h : Rat} (hr : 0 ≤ r) (hg : 0 ≤ g) (hh : 0 ≤ h) : q / (1 + r * g) / (1 + r / (1 + r * g) * h) = q / (1 + r * (g + h)) := by
  have p1 := one_pos hr hg
  have h1 := ne_zero p1
  have h2 := ne_zero (one_pos (div_nn hr p1) hh)
  have h3 := ne_zero (one_pos hr (add_nn hg hh))
  grind
theorem under_zero {v r : Rat} : v / (1 + r * 0) = v := by grind
theorem under_firm {v g : Rat} : v / (1 + 0 * g) = v := by grind
theorem many_at {v r g m : Rat} : v * m / (1 + r * g) = m * (v / (1 + r * g)) := by grind
theorem and_firm_v {v r : Rat} (hr : 0 < r) : (v * 0 + v * r) / (r + 0) = v := by
  have := ne_zero hr
  grind
theorem and_firm_r {r : Rat} (hr : 0 < r) : r * 0 / (r + 0) = 0 := by
  have := ne_zero hr
  grind
theorem strong_firm {v r : Rat} (hv : 0 ≤ v) (hr : 0 ≤ r) : strong v 0 v r = true := by
  refine strong_iff.mpr ⟨Rat.le_refl, ?_⟩
  have := Rat.mul_nonneg hv hr
  grind
end My

/-! own layer, 6: what the written part holds, read off once -/
namespace My
open PySem PySem.Spec PyProof.Rows L2
/-- a def: where its function stands, what it is -/
structure Df where
  adr : PySem.W.Frag → Addr
  name : Str
  qual : Str
  st : Stmt
def Df.val (d : Df) : He.FnW := some (d.name, d.qual, defArgs d.st, .stmts (defBody d.st), defScope d.st, mainGlobals, [], builtinsNs)
def dfV (K : PySem.W.Frag) (d : Df) : He.FnW := match K.lookup (d.adr K) with
  | some ⟨_, _, .func fd, _⟩ => some (fd.name, fd.qualname, fd.params, fd.body, fd.scope, fd.globals, fd.closure, fd.builtins)
  | _ => none
def dfB (K : PySem.W.Frag) (d : Df) : Bool := PySem.W.keepIn K (.ref (d.adr K)) && match K.lookup (d.adr K) with
  | some ⟨_, _, .func fd, _⟩ => PySem.W.codeIn K fd.code d.qual && match fd.defaults with
    | .none => true
    | _ => false
  | _ => false
abbrev HV : Type := Bool × List He.FnW
def obsK (ex : PySem.W.Frag → Bool) (ds : List Df) (K : PySem.W.Frag) : HV := (ex K && ds.all (dfB K), ds.map (dfV K))
def valK (ds : List Df) : HV := (true, ds.map Df.val)
def frK (n : Nat) (g : Addr → Option Obj) : PySem.W.Frag := He.frT g (He.asD g n)
def hook (n : Nat) (ex : PySem.W.Frag → Bool) (ds : List Df) : PySem.W.Hook where
  α := HV
  obs s := obsK ex ds (frK n s.heap.get?)
  val _ := valK ds
  says _ h := ∃ K : PySem.W.Frag, K.In h ∧ obsK ex ds K = valK ds
  of _ s e := ⟨_, He.frT_in, e⟩
  keeps _ _ _ := fun ⟨K, i, c⟩ k => ⟨K, fun a o e => k a o (i a o e), c⟩
def obT (n : Nat) (ex : PySem.W.Frag → Bool) (ds : List Df) (s : PySem.W.SharedT) : HV := obsK ex ds (frK n (HandSHeadRun.getT s))
theorem obT_eq {n : Nat} {ex : PySem.W.Frag → Bool} {ds : List Df} (s : PySem.W.SharedT) : obT n ex ds s = (hook n ex ds).obs s.abs := by
  unfold obT
  rw [funext (HandSHeadRun.getT_eq s)]
  rfl
section
variable {K : PySem.W.Frag} {ex : PySem.W.Frag → Bool} {ds : List Df} {d : Df}
theorem says_ex (c : obsK ex ds K = valK ds) : ex K = true := (He.ba (congrArg Prod.fst c)).1
theorem says_fun (c : obsK ex ds K = valK ds) (i : Nat) (h : ds[i]? = some d) : Fun K d.name d.qual d.st (d.adr K) (fdOf K (d.adr K)) := by
  have e1 : dfB K d = true := List.all_eq_true.mp (He.ba (congrArg Prod.fst c)).2 d (List.mem_of_getElem? h)
  have e2 : dfV K d = d.val := by
    have e := congrArg (fun z : HV => z.2[i]?) c
    have e : (ds.map (dfV K))[i]? = (ds.map Df.val)[i]? := e
    rw [List.getElem?_map, List.getElem?_map, h] at e
    exact Option.some.inj e
  unfold dfB at e1
  obtain ⟨k1, k2⟩ := He.ba e1
  unfold dfV at e2
  split at e2
  · rename_i oc od fd osl hl
    rw [hl] at k2
    obtain ⟨k3, k4⟩ := He.ba k2
    have hd : fd.defaults = .none := by
      revert k4
      cases fd.defaults <;> intro k4 <;> first | rfl | cases k4
    have e3 := Option.some.inj e2
    simp only [Prod.mk.injEq] at e3
    obtain ⟨f1, f2, f3, f4, f5, f6, f7, f8⟩ := e3
    have ef : fdOf K (d.adr K) = fd := by
      unfold fdOf
      rw [hl]
    rw [ef]
    refine ⟨⟨oc, od, fd.kwdefaults, fd.doc, fd.pyModule, fd.annotations, fd.code, fd.closureTuple, osl, ?_, hl, k3⟩, k1⟩
    cases fd
    simp only at f1 f2 f3 f4 f5 f6 f7 f8 hd
    subst f1 f2 f3 f4 f5 f6 f7 f8 hd
    rfl
  · cases e2
/-- a def without defaults: by its written arguments -/
theorem fun_binds {x qual : Str} {st : Stmt} {f : Addr} {fd : FuncData} {ps : List Str} (F : Fun K x qual st f fd)
    (h : ∀ (kV doc pm : Value) (an : Option Addr) (cdv ct : Value) (us : List Value), us.length = ps.length → bindArgs (PySem.W.fnOf x qual (defArgs st) (defBody st) (defScope st) Value.none kV doc pm an cdv ct) { pos := us } = pure (ps.zip us)) : L2.Binds K fd ps [] := by
  obtain ⟨oc, od, kV, doc, pm, an, cdv, ct, osl, e, hl, hc⟩ := F.ex
  subst e
  exact Binds.all (h kV doc pm an cdv ct)
/-! what is asked beside He's facts -/
def insB (K : PySem.W.Frag) (x : Str) : Bool := He.eqO (PySem.W.findIn K (.ref (He.ga K x)) "__class__") (some (some (.builtin "object.__class__"))) && (He.eqO (PySem.W.specialIn K (.builtin "object.__class__") "__get__") (some (some (.builtin "getset_descriptor.__get__"))) &&
  (decide (PySem.W.takesIn K (.builtin "object.__class__") = some true) && decide (PySem.W.mroIn K (He.ga K x) (.type "object") = some true)))
theorem insB_ok {x : Str} (h : insB K x = true) : InsC K (He.ga K x) := by
  obtain ⟨h1, h⟩ := He.ba h
  obtain ⟨h2, h⟩ := He.ba h
  obtain ⟨h3, h4⟩ := He.ba h
  exact ⟨He.eqO_ok h1, He.eqO_ok h2, of_decide_eq_true h3, of_decide_eq_true h4⟩
def propB (K : PySem.W.Frag) (x m : Str) : Bool := He.eqO (PySem.W.findIn K (.ref (He.ga K x)) m) (some (some (.ref (He.ma K (He.ga K x) m)))) && (He.eqO (PySem.W.specialIn K (.ref (He.ma K (He.ga K x) m)) "__get__") (some (some (.builtin "property.__get__"))) &&
  (decide (PySem.W.takesIn K (.ref (He.ma K (He.ga K x) m)) = some true) && match PySem.W.recIn K (He.ma K (He.ga K x) m) "property" with
    | some (.ref _ :: _) => true
    | _ => false))
theorem propB_ok {x m : Str} (h : propB K x m = true) : PropOf K (He.ga K x) m (He.ma K (He.ga K x) m) (gtOf K (He.ma K (He.ga K x) m)) := by
  obtain ⟨h1, h⟩ := He.ba h
  obtain ⟨h2, h⟩ := He.ba h
  obtain ⟨h3, h4⟩ := He.ba h
  refine ⟨He.eqO_ok h1, He.eqO_ok h2, of_decide_eq_true h3, ?_⟩
  unfold gtOf
  split at h4
  · rename_i g rest e
    rw [e]
    exact ⟨rest, rfl⟩
  · cases h4
def bltB (K : PySem.W.Frag) (x : Str) (b : String) : Bool := He.eqO (PySem.W.nsIn K mainGlobals x) (some (some (.builtin b)))
theorem bltB_ok {h : Heap} {mg : Str → Option Value} (X : K.In h) (G : h.Ns mainGlobals mg) {x : Str} {b : String} (c : bltB K x b = true) : mg x = some (.builtin b) := PySem.W.mg_of X G (He.eqO_ok c)
theorem all_get {α : Type} {p : α → Bool} {l : List α} (h : l.all p = true) (i : Nat) {x : α} (e : l[i]? = some x) : p x = true := List.all_eq_true.mp h x (List.mem_of_getElem? e)
theorem gfn_of {mg : Str → Option Value} {h : Heap} {x : Str} {st : Stmt} {ps : List Str} (X : K.In h) (G : h.Ns mainGlobals mg) (c : He.Fa.ok K (.glo x) = true) (F : Fun K x x st (He.ga K x) (fdOf K (He.ga K x)))
    (b : ∀ (kV doc pm : Value) (an : Option Addr) (cdv ct : Value) (us : List Value), us.length = ps.length → bindArgs (PySem.W.fnOf x x (defArgs st) (defBody st) (defScope st) Value.none kV doc pm an cdv ct) { pos := us } = pure (ps.zip us)) : GFn K mg x st ps :=
  ⟨He.glo_ok X G c, F, fun_binds F b⟩
theorem gme_of {x m qual : Str} {st : Stmt} {ps : List Str} (c : He.Fa.ok K (.meth x m) = true) (F : Fun K m qual st (He.ma K (He.ga K x) m) (fdOf K (He.ma K (He.ga K x) m)))
    (b : ∀ (kV doc pm : Value) (an : Option Addr) (cdv ct : Value) (us : List Value), us.length = ps.length → bindArgs (PySem.W.fnOf m qual (defArgs st) (defBody st) (defScope st) Value.none kV doc pm an cdv ct) { pos := us } = pure (ps.zip us)) : GMe K (He.ga K x) m qual st ps :=
  ⟨He.meth_ok c, F, fun_binds F b⟩
theorem gop_of {x m qual : Str} {st : Stmt} (c : He.Fa.ok K (.meth x m) = true) (F : Fun K m qual st (He.ma K (He.ga K x) m) (fdOf K (He.ma K (He.ga K x) m)))
    (b : ∀ (kV doc pm : Value) (an : Option Addr) (cdv ct : Value) (us : List Value), us.length = 2 → bindArgs (PySem.W.fnOf m qual (defArgs st) (defBody st) (defScope st) Value.none kV doc pm an cdv ct) { pos := us } = pure ((["self", "other"] : List Str).zip us)) : GOp K (He.ga K x) m qual st :=
  ⟨(He.meth_ok c).at_, (He.meth_ok c).fn, F, fun_binds F b⟩
theorem gpr_of {x m qual : Str} {st : Stmt} (c : propB K x m = true) (F : Fun K m qual st (gtOf K (He.ma K (He.ga K x) m)) (fdOf K (gtOf K (He.ma K (He.ga K x) m))))
    (b : ∀ (kV doc pm : Value) (an : Option Addr) (cdv ct : Value) (us : List Value), us.length = 1 → bindArgs (PySem.W.fnOf m qual (defArgs st) (defBody st) (defScope st) Value.none kV doc pm an cdv ct) { pos := us } = pure ((["self"] : List Str).zip us)) : GPr K (He.ga K x) m qual st :=
  ⟨propB_ok c, F, fun_binds F b⟩
theorem gmk_of {mg : Str → Option Value} {h : Heap} {x : Str} (X : K.In h) (G : h.Ns mainGlobals mg) (c : He.Fa.ok K (.glo x) = true) (m : He.Fa.ok K (.mkr x) = true) : GMk K mg x := ⟨He.glo_ok X G c, He.mkr_ok m⟩
end
end My

local macro_rules | `(tactic| walk_at "h") => `(tactic| first
  | with_reducible refine My.i_seq ?_ | with_reducible refine My.i_asg ?_ | with_reducible refine My.i_gname ?_ | ((with_reducible refine' My.i_var ?e ?_); (case e => exact rfl)) | with_reducible refine My.i_c ?_ | with_reducible refine My.i_op ?_ | with_reducible refine My.i_un ?_
  | with_reducible refine My.i_I0 ?_ | with_reducible refine My.i_call ?_ | with_reducible refine My.i_cb ?_ | with_reducible refine My.i_cons ?_ | with_reducible refine My.i_nil ?_ | with_reducible refine My.i_ret ?_ | with_reducible refine My.i_retN ?_ | with_reducible refine My.i_drop ?_
  | with_reducible refine My.i_tup ?_ | with_reducible refine My.i_lst ?_ | with_reducible refine My.i_ife ?_ | with_reducible refine My.i_if ?_ | with_reducible refine My.i_test ?_ | with_reducible refine My.i_tB ?_ | with_reducible refine My.i_bl ?_ | with_reducible refine My.i_blv ?_
  | with_reducible refine My.i_not ?_ | with_reducible refine My.i_and ?_ | with_reducible refine My.i_or ?_ | with_reducible refine My.i_andV ?_ | with_reducible refine My.i_orV ?_ | with_reducible refine My.i_notV ?_ | with_reducible refine My.i_U ?_ | with_reducible refine My.i_next ?_
  | with_reducible refine My.i_par ?_ | with_reducible refine My.i_two ?_ | with_reducible refine My.i_int1 ?_ | with_reducible refine My.i_int1b ?_ | with_reducible refine My.i_abs ?_ | with_reducible refine My.i_max2 ?_ | with_reducible refine My.i_min2 ?_
  | ((with_reducible refine My.i_szT ?z ?_); (case z => exact Nat.le_of_ble_eq_true rfl); intro _ _ _ _ _) | ((with_reducible refine My.i_szL ?z ?_); (case z => exact Nat.le_of_ble_eq_true rfl); intro _ _ _ _ _)
  | with_reducible refine My.i_sub ?_ | with_reducible refine My.i_lstRg ?_ | with_reducible refine My.i_rg1 ?_ | with_reducible refine My.i_in ?_ | ((with_reducible refine' My.i_setL ?l ?e ?_); (case l => walk_at "look"); (case e => exact rfl); intro _ _ _) | with_reducible refine My.i_bm ?_ | with_reducible refine My.i_bm0 ?_
  | ((with_reducible refine' My.i_tyL (L2.SqL.of ?l) ?_); (case l => walk_at "look")) | ((with_reducible refine' My.i_app ?l ?e ?_); (case l => walk_at "look"); (case e => exact Nat.le_of_ble_eq_true rfl); intro _ _ _) | with_reducible refine L2.iteT ?_ | with_reducible refine L2.iteF ?_ | with_reducible refine My.ite_nt ?_ | with_reducible refine My.ite_nf ?_ | with_reducible refine My.i_gcd ?_
  | ((with_reducible refine' My.i_isiI ?e ?_); (case e => exact (by decide +kernel : L2.kitB _ _ = some _))) | with_reducible refine My.i_gcons ?_ | with_reducible refine My.i_gnil ?_
  | ((with_reducible refine' My.i_lenT ?l ?_); (case l => walk_at "lookT")) | ((with_reducible refine' My.i_lenL (L2.SqL.of ?l) ?_); (case l => walk_at "look")) | ((with_reducible refine' My.i_tupg ?l ?e ?_); (case l => walk_at "lookT"); (case e => rfl)) | with_reducible refine My.i_fld0 ?_ | with_reducible refine My.i_prop ?_ | with_reducible refine My.i_meth ?_ | with_reducible refine My.i_make ?_ | with_reducible refine My.i_sfld ?_
  | ((with_reducible refine' My.i_fv ?h ?c ?n ?_); (case h => walk_at "look"); (case c => assumption); (case n => assumption)) | ((with_reducible refine' My.i_fo ?h ?c ?n ?_); (case h => walk_at "look"); (case c => assumption); (case n => assumption))
  | ((with_reducible show My.PropQ _ _ _ _ _ _ _); (first | ((refine' My.i_pv ?h ?_); (case h => walk_at "look")) | ((refine' My.i_po ?h ?_); (case h => walk_at "look")))) | ((with_reducible refine' My.i_me ?h ?a ?b ?_); (case h => walk_at "look"); (case a => decide +kernel); (case b => decide +kernel)) | with_reducible refine My.i_lc ?_ | with_reducible refine My.i_for ?_ | with_reducible refine My.i_rng ?_ | with_reducible refine My.i_rngv (by decide) (by decide) ?_ | with_reducible refine My.i_wl ?_ | with_reducible refine My.i_wt ?_ | with_reducible refine My.i_par3 ?_ | with_reducible refine My.i_three ?_
  | ((with_reducible refine' My.i_wtv ?l ?_); (case l => walk_at "lookT")) | ((with_reducible refine' My.i_wlv (L2.SqL.of ?l) ?_); (case l => walk_at "look")) | walk_at "ix" | ((with_reducible refine' My.i_I ?c ?_); (case c => walk_at "side")))
local macro_rules | `(tactic| walk_at "side") => `(tactic| first | assumption | ((show (0 : Int) < _); omega) | (exact My.mulZ (by assumption) (by assumption) (by omega)) | (exact My.divS (by omega) (by omega)) | (exact My.mulS (by omega) (by omega) (by omega) (by omega)) | (exact My.powL (by decide +kernel)) | (exact My.pow3S (by omega) (by omega)))
local macro_rules | `(tactic| walk_at "look") => `(tactic| first | assumption | (apply (‹L2.Same _ _› : L2.Same _ _) _ _; walk_at "look") | ((refine' (‹My.But _ _ _› _ _ ?n ?l); (case n => walk_at "ne")); (case l => walk_at "look")))
local macro_rules | `(tactic| walk_at "ne") => `(tactic| first | assumption | (refine Ne.symm ?_; assumption) | exact L2.ne_of_none (by walk_at "lookS") (by assumption) | exact (L2.ne_of_none (by walk_at "lookS") (by assumption)).symm | exact L2.ne_of (by walk_at "lookS") (by walk_at "lookS") (by intro z; cases z))
local macro_rules | `(tactic| walk_at "lookS") => `(tactic| first | assumption | (apply (‹L2.Same _ _› : L2.Same _ _) _ _; walk_at "lookS"))
local macro_rules | `(tactic| walk_at "ix") => `(tactic| first
  | ((with_reducible refine' My.i_ixsL (L2.SqL.of ?l) ?e ?_); (case l => walk_at "look"); (case e => exact rfl)) | ((with_reducible refine' My.i_ixsT ?l ?e ?_); (case l => walk_at "lookT"); (case e => exact rfl)))
local macro_rules | `(tactic| walk_at "lookT") => `(tactic| first | assumption | exact L2.SqT.of (by walk_at "look") | (apply L2.Same.seqT ‹L2.Same _ _›; walk_at "lookT") | (apply My.Pot.but ‹My.Pot _ _ _› ‹My.But _ _ _›; walk_at "lookT"))
local macro_rules | `(tactic| walk_at "len") => `(tactic| (intro vs H Q E h; first | (obtain ⟨_, e, _⟩ := h; subst e; rfl) | (obtain ⟨_, _, e, _⟩ := h; subst e; rfl) | (obtain ⟨_, _, _, e, _⟩ := h; subst e; rfl) | (obtain ⟨_, _, _, _, e, _⟩ := h; subst e; rfl) | (obtain ⟨_, _, _, _, _, e, _⟩ := h; subst e; rfl) | (obtain ⟨_, _, _, _, _, _, e, _⟩ := h; subst e; rfl) | (obtain ⟨_, _, _, _, _, _, _, e, _⟩ := h; subst e; rfl) | (obtain ⟨_, _, _, _, _, _, _, _, e, _⟩ := h; subst e; rfl) | (obtain ⟨_, _, _, _, _, _, _, _, _, e, _⟩ := h; subst e; rfl) | (obtain ⟨_, _, _, _, _, _, _, _, _, _, e, _⟩ := h; subst e; rfl) | (obtain ⟨_, _, _, _, _, _, _, _, _, _, _, e, _⟩ := h; subst e; rfl) | (obtain ⟨_, _, _, _, _, _, _, _, _, _, _, _, e, _⟩ := h; subst e; rfl) | (obtain ⟨_, _, _, _, _, _, _, _, _, _, _, _, _, e, _⟩ := h; subst e; rfl)))
local macro_rules | `(tactic| walk_at "but") => `(tactic| first | exact My.But.refl _ | assumption | (refine My.But.trans ?_ ‹My.But _ _ _›; walk_at "but") | (refine My.But.trans ?_ (L2.Same.but ‹L2.Same _ _›); walk_at "but"))
local macro_rules | `(tactic| walk_at "same") => `(tactic| first | exact L2.Same.refl _ | assumption | (refine L2.Same.trans ?_ ‹L2.Same _ _›; walk_at "same"))

namespace Lw
open PySem PySem.Spec PyProof.Rows L2 My
def top (i : Nat) : Stmt := PySem.Challenge.pw_rangehunt_k04_whole_loads_are_sources_of.main.body.getD i (.Pass ⟨0, 0, 0, 0⟩)
abbrev s_is_integer : Stmt := top 2
abbrev s_is_ratio : Stmt := top 3
abbrev s_ratio : Stmt := top 4
abbrev s_plus : Stmt := top 5
abbrev s_times : Stmt := top 6
abbrev s_over : Stmt := top 7
abbrev s_at_least : Stmt := top 8
abbrev s_weakening : Stmt := top 16
abbrev s_repeated : Stmt := top 17
abbrev s_covers : Stmt := top 18
abbrev s__law_pot : Stmt := top 21
abbrev s__law_take : Stmt := top 22
abbrev s__law_of : Stmt := top 23
abbrev s__law_cells : Stmt := top 24
abbrev s__law_common : Stmt := top 25
abbrev s__law_pair : Stmt := top 26
abbrev s__law_plus : Stmt := top 27
abbrev s__law_times : Stmt := top 28
abbrev s__law_over : Stmt := top 29
abbrev s__law_ratio : Stmt := top 30
abbrev s__law_is_beside : Stmt := top 31
abbrev s__law_are_joined : Stmt := top 32
abbrev s__law_is_carried : Stmt := top 33
abbrev s__law_right : Stmt := top 34
abbrev s_law : Stmt := top 35
abbrev s_MeterError___init__ : Stmt := inClass (top 10) 0
abbrev s_Source___init__ : Stmt := inClass (top 19) 0
abbrev s_Source_volts : Stmt := inClass (top 19) 1
abbrev s_Source_ohms : Stmt := inClass (top 19) 2
abbrev s_Source_at : Stmt := inClass (top 19) 3
abbrev s_Source_under : Stmt := inClass (top 19) 4
abbrev s_Source___add__ : Stmt := inClass (top 19) 5
abbrev s_Source___and__ : Stmt := inClass (top 19) 6
abbrev s_Source___mul__ : Stmt := inClass (top 19) 7
abbrev s_Source___rmul__ : Stmt := inClass (top 19) 8
abbrev s_Source___ge__ : Stmt := inClass (top 19) 9
abbrev s_Source___le__ : Stmt := inClass (top 19) 10
abbrev s_Source___eq__ : Stmt := inClass (top 19) 11
structure Tx (K : PySem.W.Frag) (mg : Str → Option Value) : Prop where
  f_is_integer : GFn K mg "is_integer" s_is_integer ["value"]
  f_is_ratio : GFn K mg "is_ratio" s_is_ratio ["value"]
  f_ratio : GFn K mg "ratio" s_ratio ["above", "below"]
  f_plus : GFn K mg "plus" s_plus ["one", "other"]
  f_times : GFn K mg "times" s_times ["one", "other"]
  f_over : GFn K mg "over" s_over ["one", "other"]
  f_at_least : GFn K mg "at_least" s_at_least ["one", "other"]
  f_weakening : GFn K mg "weakening" s_weakening ["ohms", "load"]
  f_repeated : GFn K mg "repeated" s_repeated ["source", "many"]
  f_covers : GFn K mg "covers" s_covers ["one", "other"]
  f__law_pot : GFn K mg "_law_pot" s__law_pot ["_law_script", "_law_place"]
  f__law_take : GFn K mg "_law_take" s__law_take ["_law_pot_here", "_law_upto"]
  f__law_of : GFn K mg "_law_of" s__law_of ["_law_pot_here", "_law_some"]
  f__law_cells : GFn K mg "_law_cells" s__law_cells ["_law_script", "_law_most"]
  f__law_common : GFn K mg "_law_common" s__law_common ["_law_one", "_law_other"]
  f__law_pair : GFn K mg "_law_pair" s__law_pair ["_law_above", "_law_under"]
  f__law_plus : GFn K mg "_law_plus" s__law_plus ["_law_one", "_law_other"]
  f__law_times : GFn K mg "_law_times" s__law_times ["_law_one", "_law_other"]
  f__law_over : GFn K mg "_law_over" s__law_over ["_law_one", "_law_other"]
  f__law_ratio : GFn K mg "_law_ratio" s__law_ratio ["_law_pot_here"]
  f__law_is_beside : GFn K mg "_law_is_beside" s__law_is_beside ["_law_one", "_law_load"]
  f__law_are_joined : GFn K mg "_law_are_joined" s__law_are_joined ["_law_one", "_law_other", "_law_third"]
  f__law_is_carried : GFn K mg "_law_is_carried" s__law_is_carried ["_law_one", "_law_other", "_law_load", "_law_many"]
  f__law_right : GFn K mg "_law_right" s__law_right ["_law_pot_here"]
  f_law : GFn K mg "law" s_law ["_law_script"]
  b_list : mg "list" = none
  b_range : mg "range" = none
  b_isinstance : mg "isinstance" = none
  b_int : mg "int" = none
  b_abs : mg "abs" = none
  b_bool : mg "bool" = none
  b_tuple : mg "tuple" = none
  b_len : mg "len" = none
  b_max : mg "max" = none
  b_repr : mg "repr" = none
  b_all : mg "all" = none
  b_min : mg "min" = none
  b_gcd : mg "gcd" = some (.builtin "math.gcd")
  c_Source : Cls K (He.ga K "Source")
  k_Source : GMk K mg "Source"
  s_Source : PySem.W.selfFirst K (He.ga K "Source") = true
  a_Source__volts : NoAttr K (He.ga K "Source") "_volts"
  a_Source__ohms : NoAttr K (He.ga K "Source") "_ohms"
  d_Source___init__ : GMe K (He.ga K "Source") "__init__" "Source.__init__" s_Source___init__ ["self", "volts", "ohms"]
  p_Source_volts : GPr K (He.ga K "Source") "volts" "Source.volts" s_Source_volts
  p_Source_ohms : GPr K (He.ga K "Source") "ohms" "Source.ohms" s_Source_ohms
  d_Source_at : GMe K (He.ga K "Source") "at" "Source.at" s_Source_at ["self", "load"]
  d_Source_under : GMe K (He.ga K "Source") "under" "Source.under" s_Source_under ["self", "load"]
  o_Source___add__ : GOp K (He.ga K "Source") "__add__" "Source.__add__" s_Source___add__
  o_Source___and__ : GOp K (He.ga K "Source") "__and__" "Source.__and__" s_Source___and__
  o_Source___mul__ : GOp K (He.ga K "Source") "__mul__" "Source.__mul__" s_Source___mul__
  o_Source___rmul__ : GOp K (He.ga K "Source") "__rmul__" "Source.__rmul__" s_Source___rmul__
  o_Source___ge__ : GOp K (He.ga K "Source") "__ge__" "Source.__ge__" s_Source___ge__
  o_Source___le__ : GOp K (He.ga K "Source") "__le__" "Source.__le__" s_Source___le__
  o_Source___eq__ : GOp K (He.ga K "Source") "__eq__" "Source.__eq__" s_Source___eq__
  m_ONE : mg "ONE" = some (.ref (He.ga K "ONE"))
  t_ONE : ∀ H, SqT K H (He.ga K "ONE") [V.int 1, V.int 1]
  y_Source : InsC K (He.ga K "Source")
  q_Source : MulI K (He.ga K "Source")
  n_Source : neB K (He.ga K "Source") = true
section
variable {P : Program} {w : World} {K : PySem.W.Frag} {mg : Str → Option Value} {base : Heap}
theorem sc_is_integer : FnScope ["value"] ["value"] (defScope s_is_integer) := ⟨rfl, rfl, rfl, by decide +kernel, rfl, by decide +kernel, by decide +kernel⟩
theorem ok_is_integer (T : Tx K mg) : FnAt P w K mg base CX0 1 (He.ga K "is_integer") ["value"] spIsInt := by
  refine T.f_is_integer.f.ok sc_is_integer ?_ (fun cdv A outer s H vs Q E hr h => ?_)
  · walk_at "len"
  · obtain ⟨i, rfl, k⟩ := h
    refine ⟨_, (pss_one (ps_ret (pe_and (pe_callB call_isi rfl T.b_isinstance (by decide +kernel) (pa_cons (pv 0) (pa_cons (pe_bltn (v := .ty "int") rfl T.b_int (by decide +kernel) rfl) pa_nil))) (pe_one (pe_not (pe_callB call_isi rfl T.b_isinstance (by decide +kernel) (pa_cons (pv 0) (pa_cons (pe_bltn (v := .ty "bool") rfl T.b_bool (by decide +kernel) rfl) pa_nil)))))))), ?_⟩
    refine My.i_go (σ' := [some _]) rfl ?_
    repeat walk_at "h"
    refine i_isiI (b := true) (by decide +kernel) ?_
    repeat walk_at "h"
    refine i_isiI (b := false) (by decide +kernel) ?_
    repeat walk_at "h"
    exact k
theorem sc_ratio : FnScope ["above", "below", "common"] ["above", "below"] (defScope s_ratio) := ⟨rfl, rfl, rfl, by decide +kernel, rfl, by decide +kernel, by decide +kernel⟩
theorem ok_ratio (T : Tx K mg) : FnAt P w K mg base CX0 1 (He.ga K "ratio") ["above", "below"] spPair := by
  refine T.f_ratio.f.ok sc_ratio ?_ (fun cdv A outer s H vs Q E hr h => ?_)
  · walk_at "len"
  · obtain ⟨a, b, rfl, hb, sa, sb, k⟩ := h
    refine ⟨_, (pss_cons (ps_set (i := 2) sc_ratio.nd rfl (.inl rfl) (pe_callBfun cr_gcd rfl T.b_gcd (pa_cons (pv 0) (pa_cons (pv 1) pa_nil))))
      (pss_one (ps_ret (pe_tup (pa_cons (pe_op op_fdivW (pv 0) (pv 2)) (pa_cons (pe_op op_fdivW (pv 1) (pv 2)) pa_nil)))))), ?_⟩
    refine My.i_go (σ' := [some _, some _, none]) rfl ?_
    obtain ⟨d1, d2⟩ := gcd_div (a := a) hb sb
    repeat walk_at "h"
    rename_i p H1 S hp e
    rw [rat_div hb] at e
    exact k p H1 S hp e
theorem sc_at_least : FnScope ["one", "other"] ["one", "other"] (defScope s_at_least) := ⟨rfl, rfl, rfl, by decide +kernel, rfl, by decide +kernel, by decide +kernel⟩
theorem ok_at_least (T : Tx K mg) : FnAt P w K mg base CX0 1 (He.ga K "at_least") ["one", "other"] (spAtLeast K) := by
  refine T.f_at_least.f.ok sc_at_least ?_ (fun cdv A outer s H vs Q E hr h => ?_)
  · walk_at "len"
  · obtain ⟨a, b, p, q, j, rfl, hp, hq, zp, zq, hj, k⟩ := h
    have z1 := zp.1; have z2 := zp.den; have z3 := zq.1; have z4 := zq.den
    refine ⟨_, (pss_one (ps_ret (pe_cmpR op_ge (pe_op op_mulW (pe_ix ix_seq (pv 0) pe_int (fun _ _ => rfl)) (pe_ix ix_seq (pv 1) pe_int (fun _ _ => rfl))) (pe_op op_mulW (pe_ix ix_seq (pv 1) pe_int (fun _ _ => rfl)) (pe_ix ix_seq (pv 0) pe_int (fun _ _ => rfl))) (nomark _)))), ?_⟩
    refine My.i_go (σ' := [some _, some _]) rfl ?_
    repeat walk_at "h"
    rw [decide_eq_decide.mpr (le_nd p q).symm]
    exact k
theorem sc__law_pot : FnScope ["_law_script", "_law_place", "_law_cell", "_law_own", "_law_small"] ["_law_script", "_law_place"] (defScope s__law_pot) := ⟨rfl, rfl, rfl, by decide +kernel, rfl, by decide +kernel, by decide +kernel⟩
theorem ok__law_pot (T : Tx K mg) : FnAt P w K mg base CX0 1 (He.ga K "_law_pot") ["_law_script", "_law_place"] (spPot K) := by
  refine T.f__law_pot.f.ok sc__law_pot ?_ (fun cdv A outer s H vs Q E hr h => ?_)
  · walk_at "len"
  · obtain ⟨a, ns, i, rfl, hx, hi, hi2, k⟩ := h
    refine ⟨_, (pss_cons (ps_set (i := 2) sc__law_pot.nd rfl (.inl rfl) (pe_ifExp (pt_cmpR op_lt (pv 1) (pe_callB cr_len rfl T.b_len (by decide +kernel) (pa_cons (pv 0) pa_nil)) (nomark _)) (pe_ix ix_seq (pv 0) (pv 1) (fun _ _ => rfl)) (pe_op op_add (pe_op op_mulW pe_int (pv 1)) pe_int)))
      (pss_cons (ps_set (i := 3) sc__law_pot.nd rfl (.inl rfl) (pe_op op_mulW (pe_op op_mod (pe_callTy cr_int1 rfl T.b_int (by decide +kernel) (pa_cons (pe_callB cr_abs rfl T.b_abs (by decide +kernel) (pa_cons (pv 2) pa_nil)) pa_nil)) (pe_op op_powW (pe_op op_powW pe_int pe_int) pe_int)) (pe_callTy cr_int1 rfl T.b_int (by decide +kernel) (pa_cons (pe_cmpR op_ge (pe_callB cr_abs rfl T.b_abs (by decide +kernel) (pa_cons (pv 2) pa_nil)) (pe_op op_powW pe_int pe_int) (nomark _)) pa_nil))))
      (pss_cons (ps_set (i := 4) sc__law_pot.nd rfl (.inl rfl) (pe_op op_mod (pe_callTy cr_int1 rfl T.b_int (by decide +kernel) (pa_cons (pv 2) pa_nil)) pe_int))
      (pss_one (ps_ret (pe_lst (pa_cons (pv 3) (pa_cons (pe_op op_mod (pe_callTy cr_int1 rfl T.b_int (by decide +kernel) (pa_cons (pe_op op_add (pe_op op_add (pe_op op_mulW (pv 4) pe_int) (pe_op op_mulW (pe_op op_mulW pe_int (pv 1)) (pv 1))) pe_int) pa_nil)) pe_int) (pa_cons pe_int pa_nil))))))))), ?_⟩
    refine My.i_go (σ' := [some _, some _, none, none, none]) rfl ?_
    repeat walk_at "h"
    refine i_lenL hx ?_
    repeat walk_at "h"
    refine i_join (fun v => ∃ z : Int, v = .int z) (fun h1 Q hQ => ?_) (fun h1 Q hQ => ?_) ?_
    · have h1 := of_decide_eq_true h1
      rw [List.length_map] at h1
      repeat walk_at "h"
      obtain ⟨j, rfl⟩ : ∃ j : Nat, i = (j : Int) := ⟨i.toNat, by omega⟩
      have hj : j < ns.length := by omega
      exact i_ixsL hx (atI_nat (j := j) (v := .int ns[j]) (by rw [List.getElem?_map, List.getElem?_eq_getElem hj, Option.map_some])) (hQ _ ⟨_, rfl⟩)
    · repeat walk_at "h"
      exact hQ _ ⟨_, rfl⟩
    · rintro v ⟨z, rfl⟩
      repeat walk_at "h"
      refine i_modQ (by decide +kernel) fun m hm1 hm2 => ?_
      repeat walk_at "h"
      refine i_I (mul01 (pot_lt hm1 hm2)) ?_
      repeat walk_at "h"
      rename_i q H1 S hq e1
      exact k q H1 S hq ⟨_, _, _, e1, mul01_nn hm1, Int.emod_nonneg _ (by decide), Int.lt_trans (Int.emod_lt_of_pos _ (by decide)) (by decide), Int.le_refl _, Int.le_refl _⟩
theorem sc__law_take : FnScope ["_law_pot_here", "_law_upto", "_law_digit", "_law_prime", "_law_mixed"] ["_law_pot_here", "_law_upto"] (defScope s__law_take) := ⟨rfl, rfl, rfl, by decide +kernel, rfl, by decide +kernel, by decide +kernel⟩
theorem ok__law_take (T : Tx K mg) : FnAt P w K mg base CX0 1 (He.ga K "_law_take") ["_law_pot_here", "_law_upto"] spTake := by
  refine T.f__law_take.f.ok sc__law_take ?_ (fun cdv A outer s H vs Q E hr h => ?_)
  · walk_at "len"
  · obtain ⟨p, u, n, rfl, ⟨a, b, c, hp, ha, hb, hb2, hc, hcn⟩, hn, hu, hu2, k⟩ := h
    refine ⟨_, (pss_cons (ps_if (pt_cmpR op_gt (pe_ix ix_seq (pv 0) pe_int (fun _ _ => rfl)) pe_int (nomark _)) (pss_cons (ps_set (i := 2) sc__law_take.nd rfl (.inl rfl) (pe_op op_mod (pe_callTy cr_int1 rfl T.b_int (by decide +kernel) (pa_cons (pe_ix ix_seq (pv 0) pe_int (fun _ _ => rfl)) pa_nil)) (pv 1)))
      (pss_cons (ps_asg (pe_op op_fdivW (pe_ix ix_seq (pv 0) pe_int (fun _ _ => rfl)) (pv 1)) (pg_sub (pv 0) pe_int set_list))
      (pss_one (ps_ret (pv 2))))) pss_nil)
      (pss_cons (ps_asg (pe_op op_add (pe_ix ix_seq (pv 0) pe_int (fun _ _ => rfl)) pe_int) (pg_sub (pv 0) pe_int set_list))
      (pss_cons (ps_set (i := 3) sc__law_take.nd rfl (.inl rfl) (pe_ix ix_seq (pe_lst (pa_cons pe_int (pa_cons pe_int (pa_cons pe_int (pa_cons pe_int (pa_cons pe_int pa_nil)))))) (pe_op op_mod (pe_callTy cr_int1 rfl T.b_int (by decide +kernel) (pa_cons (pe_ix ix_seq (pv 0) pe_int (fun _ _ => rfl)) pa_nil)) pe_int) (fun _ _ => rfl)))
      (pss_cons (ps_set (i := 4) sc__law_take.nd rfl (.inl rfl) (pe_op op_mod (pe_callTy cr_int1 rfl T.b_int (by decide +kernel) (pa_cons (pe_op op_powW (pe_callTy cr_int1 rfl T.b_int (by decide +kernel) (pa_cons (pe_op op_add (pe_op op_add (pe_ix ix_seq (pv 0) pe_int (fun _ _ => rfl)) (pe_op op_mulW (pe_op op_mulW pe_int (pe_ix ix_seq (pv 0) pe_int (fun _ _ => rfl))) (pe_ix ix_seq (pv 0) pe_int (fun _ _ => rfl)))) pe_int) pa_nil)) pe_int) pa_nil)) (pv 3)))
      (pss_cons (ps_set (i := 4) sc__law_take.nd rfl (.inl rfl) (pe_op op_mod (pe_callTy cr_int1 rfl T.b_int (by decide +kernel) (pa_cons (pe_op op_mulW (pv 4) (pe_op op_add (pe_op op_mod (pe_callTy cr_int1 rfl T.b_int (by decide +kernel) (pa_cons (pv 4) pa_nil)) pe_int) (pe_op op_mulW pe_int (pe_ix ix_seq (pv 0) pe_int (fun _ _ => rfl))))) pa_nil)) pe_int))
      (pss_one (ps_ret (pe_op op_mod (pe_callTy cr_int1 rfl T.b_int (by decide +kernel) (pa_cons (pe_op op_fdivW (pv 4) pe_int) pa_nil)) (pv 1))))))))), ?_⟩
    refine My.i_go (σ' := [some _, some _, none, none, none]) rfl ?_
    repeat walk_at "h"
    refine ite2 (fun h1 => ?_) (fun h1 => ?_)
    · repeat walk_at "h"
      exact k _ _ (Int.emod_nonneg _ (by omega)) (Int.emod_lt_of_pos _ hu) ⟨_, _, _, by walk_at "look", Int.ediv_nonneg ha (by omega), hb, hb2, hc, by omega⟩ (by walk_at "but")
    · repeat walk_at "h"
      obtain ⟨v, hv, hm⟩ := atI_mem (xs := [V.int 2147483647, V.int 2147483629, V.int 2147483587, V.int 2147483579, V.int 2147483563]) (i := (c + 1) % 5) (Int.emod_nonneg _ (by omega)) (by simp only [List.length]; omega)
      obtain ⟨q, rfl, hq1, hq2⟩ : ∃ q : Int, v = .int q ∧ 2147483562 < q ∧ q < 2147483648 := by
        simp only [List.mem_cons, List.not_mem_nil, or_false] at hm
        rcases hm with rfl | rfl | rfl | rfl | rfl <;> exact ⟨_, rfl, by decide, by decide⟩
      refine i_ixsL (SqL.of (by walk_at "look")) hv ?_
      repeat walk_at "h"
      refine i_I (pow3Q hb hb2 (by decide) (by decide) (by omega) (by omega) (by decide) (by decide)) ?_
      iterate 3 walk_at "h"
      refine i_modQ (by omega) fun m hm1 hm2 => ?_
      repeat walk_at "h"
      exact k _ _ (Int.emod_nonneg _ (by omega)) (Int.emod_lt_of_pos _ hu) ⟨_, _, _, by walk_at "look", ha, hb, hb2, by omega, by omega⟩ (by walk_at "but")
theorem sc__law_cells : FnScope ["_law_script", "_law_most"] ["_law_script", "_law_most"] (defScope s__law_cells) := ⟨rfl, rfl, rfl, by decide +kernel, rfl, by decide +kernel, by decide +kernel⟩
theorem ok__law_cells (T : Tx K mg) : FnAt P w K mg base CX0 1 (He.ga K "_law_cells") ["_law_script", "_law_most"] (spCells K) := by
  refine T.f__law_cells.f.ok sc__law_cells ?_ (fun cdv A outer s H vs Q E hr h => ?_)
  · walk_at "len"
  · obtain ⟨a, ns, m, rfl, hx, hl, hm, k⟩ := h
    refine ⟨_, (pss_one (ps_ret (pe_listRg rfl rfl T.b_list (prg_1 rfl T.b_range (pe_callB (cr_max2 rfl) rfl T.b_max (by decide +kernel) (pa_cons pe_int (pa_cons (pe_callB (cr_min2 rfl) rfl T.b_min (by decide +kernel) (pa_cons (pv 1) (pa_cons (pe_callB cr_len rfl T.b_len (by decide +kernel) (pa_cons (pv 0) pa_nil)) pa_nil))) pa_nil))))))), ?_⟩
    refine My.i_go (σ' := [some _, some _]) rfl ?_
    repeat walk_at "h"
    refine i_lenL hx ?_
    repeat walk_at "h"
    rw [List.length_map]
    generalize e : (if (if (ns.length : Int) < m then (ns.length : Int) else m) > 1 then (if (ns.length : Int) < m then (ns.length : Int) else m) else 1) = j
    have hj : 1 ≤ j ∧ j ≤ 100 := by split at e <;> split at e <;> omega
    obtain ⟨i, rfl⟩ : ∃ i : Nat, j = (i : Int) := ⟨j.toNat, by omega⟩
    exact i_newR (.of_le (by omega) (by omega) (by omega) (by omega)) fun q H1 S hq e1 => k q H1 i (by omega) S hq e1
theorem sc__law_common : FnScope ["_law_one", "_law_other", "_law_left", "_law_right_here"] ["_law_one", "_law_other"] (defScope s__law_common) := ⟨rfl, rfl, rfl, by decide +kernel, rfl, by decide +kernel, by decide +kernel⟩
theorem ok__law_common (T : Tx K mg) : FnAt P w K mg base CX0 1 (He.ga K "_law_common") ["_law_one", "_law_other"] spCommon := by
  refine T.f__law_common.f.ok sc__law_common ?_ (fun cdv A outer s H vs Q E hr h => ?_)
  · walk_at "len"
  · obtain ⟨a, b, rfl, k⟩ := h
    refine ⟨_, (pss_cons (ps_par (i := 2) (j := 3) rfl sc__law_common.nd rfl rfl (by decide) rfl rfl (pa_cons (pe_callB cr_abs rfl T.b_abs (by decide +kernel) (pa_cons (pv 0) pa_nil)) (pa_cons (pe_callB cr_abs rfl T.b_abs (by decide +kernel) (pa_cons (pv 1) pa_nil)) pa_nil)) rfl)
      (pss_cons (ps_while PassesOwn.never (pt_cmpR op_gt (pv 3) pe_int (nomark _)) (pss_one (ps_par (i := 2) (j := 3) rfl sc__law_common.nd rfl rfl (by decide) rfl rfl (pa_cons (pv 3) (pa_cons (pe_op op_mod (pe_callTy cr_int1 rfl T.b_int (by decide +kernel) (pa_cons (pv 2) pa_nil)) (pe_callTy cr_int1 rfl T.b_int (by decide +kernel) (pa_cons (pv 3) pa_nil))) pa_nil)) rfl)))
      (pss_one (ps_ret (pv 2))))), ?_⟩
    refine My.i_go (σ' := [some _, some _, none, none]) rfl ?_
    repeat walk_at "h"
    have ea : (if a < 0 then -a else a) = (a.natAbs : Int) := by split <;> omega
    have eb : (if b < 0 then -b else b) = (b.natAbs : Int) := by split <;> omega
    rw [ea, eb]
    refine while_by (fun σ H' => H' = H ∧ ∃ l r : Nat, σ = [some (.int a), some (.int b), some (.int (l : Int)), some (.int (r : Int))] ∧ Nat.gcd l r = Nat.gcd a.natAbs b.natAbs) (fun σ _ => match σ[3]? with | some (some (V.int r)) => r.toNat | _ => 0)
      ⟨rfl, a.natAbs, b.natAbs, rfl, rfl⟩ ?_ (fun σ H Q Q' hQ ⟨v, e1, i, j, e2, e3, c, e4, q⟩ => ⟨v, e1, i, j, e2, e3, c, e4, hQ _ _ q⟩)
    rintro σ H' ⟨rfl, l, r, rfl, hg⟩
    repeat walk_at "h"
    refine ite2 (fun h1 => ?_) (fun h1 => ?_)
    · have h1 := of_decide_eq_true h1
      repeat walk_at "h"
      have e : ((l : Int) % (r : Int)) = ((l % r : Nat) : Int) := by omega
      refine ⟨⟨rfl, r, l % r, by rw [e]; rfl, ?_⟩, ?_⟩
      · rw [← hg, Nat.gcd_comm l r, Nat.gcd_rec r l, Nat.gcd_comm (l % r) r]
      · show ((l : Int) % (r : Int)).toNat < ((r : Nat) : Int).toNat
        have := Nat.mod_lt l (show r > 0 by omega)
        omega
    · have h1 : ¬ (0 : Int) < (r : Int) := fun z => h1 (decide_eq_true z)
      have : r = 0 := by omega
      subst this
      rw [Nat.gcd_zero_right] at hg
      subst hg
      repeat walk_at "h"
      exact k
theorem sc_Source_volts : FnScope ["self"] ["self"] (defScope s_Source_volts) := ⟨rfl, rfl, rfl, by decide +kernel, rfl, by decide +kernel, by decide +kernel⟩
theorem ok_Source_volts (T : Tx K mg) : FnAt P w K mg base CX0 1 (gtOf K (He.ma K (He.ga K "Source") "volts")) ["self"] (spVolts (He.ga K "Source")) := by
  refine T.p_Source_volts.f.ok sc_Source_volts ?_ (fun cdv A outer s H vs Q E hr h => ?_)
  · walk_at "len"
  · obtain ⟨x, dx, a, b, rfl, hx, k⟩ := h
    have hc := T.c_Source; have n1 := T.a_Source__volts
    refine ⟨_, (pss_one (ps_ret (pe_fld (pv 0) rfl))), ?_⟩
    refine My.i_go (σ' := [some _]) rfl ?_
    repeat walk_at "h"
    exact k
theorem sc_Source_ohms : FnScope ["self"] ["self"] (defScope s_Source_ohms) := ⟨rfl, rfl, rfl, by decide +kernel, rfl, by decide +kernel, by decide +kernel⟩
theorem ok_Source_ohms (T : Tx K mg) : FnAt P w K mg base CX0 1 (gtOf K (He.ma K (He.ga K "Source") "ohms")) ["self"] (spOhms (He.ga K "Source")) := by
  refine T.p_Source_ohms.f.ok sc_Source_ohms ?_ (fun cdv A outer s H vs Q E hr h => ?_)
  · walk_at "len"
  · obtain ⟨x, dx, a, b, rfl, hx, k⟩ := h
    have hc := T.c_Source; have n2 := T.a_Source__ohms
    refine ⟨_, (pss_one (ps_ret (pe_fld (pv 0) rfl))), ?_⟩
    refine My.i_go (σ' := [some _]) rfl ?_
    repeat walk_at "h"
    exact k
theorem sc_is_ratio : FnScope ["value", "above", "below"] ["value"] (defScope s_is_ratio) := ⟨rfl, rfl, rfl, by decide +kernel, rfl, by decide +kernel, by decide +kernel⟩
theorem ok_is_ratio (T : Tx K mg) : FnAt P w K mg base CX0 2 (He.ga K "is_ratio") ["value"] (spIsRatio K) := by
  refine T.f_is_ratio.f.ok sc_is_ratio ?_ (fun cdv A outer s H vs Q E hr h => ?_)
  · walk_at "len"
  · obtain ⟨a, p, rfl, hp, h0, k⟩ := h
    have n0 := nn_num h0
    have d0 := den_pos p
    refine ⟨_, (pss_cons (ps_if (PW.pt (pw_or (pt_not (pt_val (pe_callB call_isi rfl T.b_isinstance (by decide +kernel) (pa_cons (pv 0) (pa_cons (pe_bltn (v := .ty "tuple") rfl T.b_tuple (by decide +kernel) rfl) pa_nil))))) (pw_or1 (pt_cmpR op_ne (pe_callB cr_len rfl T.b_len (by decide +kernel) (pa_cons (pv 0) pa_nil)) pe_int (nomark _))))) (pss_one (ps_ret pe_bl)) pss_nil)
      (pss_cons (ps_asg (pv 0) (pg_tup rfl (pgs_cons (pg_name (i := 1) sc_is_ratio.nd rfl (.inl rfl)) (pgs_cons (pg_name (i := 2) sc_is_ratio.nd rfl (.inl rfl)) pgs_nil))))
      (pss_cons (ps_if (PW.pt (pw_or (pt_not (pt_val (pe_fn T.f_is_integer (ok_is_integer T) (hr.mono (by decide)) (pa_cons (pv 1) pa_nil)))) (pw_or1 (pt_not (pt_val (pe_fn T.f_is_integer (ok_is_integer T) (hr.mono (by decide)) (pa_cons (pv 2) pa_nil))))))) (pss_one (ps_ret pe_bl)) pss_nil)
      (pss_one (ps_ret (pe_and (pe_cmpR op_ge (pv 1) pe_int (nomark _)) (pe_and (pe_cmpR op_ge (pv 2) pe_int (nomark _)) (pe_one (pe_cmpR op_eq (pe_callBfun cr_gcd rfl T.b_gcd (pa_cons (pv 1) (pa_cons (pv 2) pa_nil))) pe_int (nomark _)))))))))), ?_⟩
    refine My.i_go (σ' := [some _, none, none]) rfl ?_
    repeat walk_at "h"
    refine i_isiT (b := true) hp (by decide +kernel) ?_
    repeat walk_at "h"
    refine i_neF rfl ?_
    repeat walk_at "h"
    refine ⟨_, rfl, ?_⟩
    repeat walk_at "h"
    refine ⟨_, rfl, ?_⟩
    repeat walk_at "h"
    refine ite_d n0 ?_
    repeat walk_at "h"
    refine ite_d (by omega) ?_
    repeat walk_at "h"
    refine i_eqT ?_ k
    have := p.reduced
    rw [Int.natAbs_natCast, this]
    rfl
theorem sc_plus : FnScope ["one", "other"] ["one", "other"] (defScope s_plus) := ⟨rfl, rfl, rfl, by decide +kernel, rfl, by decide +kernel, by decide +kernel⟩
theorem ok_plus (T : Tx K mg) : FnAt P w K mg base CX0 2 (He.ga K "plus") ["one", "other"] (spPlus K) := by
  refine T.f_plus.f.ok sc_plus ?_ (fun cdv A outer s H vs Q E hr h => ?_)
  · walk_at "len"
  · obtain ⟨a, b, p, q, j, rfl, hp, hq, zp, zq, hj, -, k⟩ := h
    have z1 := zp.1; have z2 := zp.den; have z3 := zq.1; have z4 := zq.den
    refine ⟨_, (pss_one (ps_ret (pe_fn T.f_ratio (ok_ratio T) (hr.mono (by decide)) (pa_cons (pe_op op_add (pe_op op_mulW (pe_ix ix_seq (pv 0) pe_int (fun _ _ => rfl)) (pe_ix ix_seq (pv 1) pe_int (fun _ _ => rfl))) (pe_op op_mulW (pe_ix ix_seq (pv 1) pe_int (fun _ _ => rfl)) (pe_ix ix_seq (pv 0) pe_int (fun _ _ => rfl)))) (pa_cons (pe_op op_mulW (pe_ix ix_seq (pv 0) pe_int (fun _ _ => rfl)) (pe_ix ix_seq (pv 1) pe_int (fun _ _ => rfl))) pa_nil))))), ?_⟩
    refine My.i_go (σ' := [some _, some _]) rfl ?_
    repeat walk_at "h"
    refine ⟨_, _, rfl, dd_pos p q, pow_le_4000 (abs_add_lt (abs_mul_lt z1 z4) (abs_mul_lt z3 z2)) (by omega), pow_le_4000 (abs_mul_lt z2 z4) (by omega), fun r H' S hr e => ?_⟩
    rw [add_div] at e
    exact k r H' S hr e
theorem sc_times : FnScope ["one", "other"] ["one", "other"] (defScope s_times) := ⟨rfl, rfl, rfl, by decide +kernel, rfl, by decide +kernel, by decide +kernel⟩
theorem ok_times (T : Tx K mg) : FnAt P w K mg base CX0 2 (He.ga K "times") ["one", "other"] (spTimes K) := by
  refine T.f_times.f.ok sc_times ?_ (fun cdv A outer s H vs Q E hr h => ?_)
  · walk_at "len"
  · obtain ⟨a, b, p, q, j, rfl, hp, hq, zp, zq, hj, -, k⟩ := h
    have z1 := zp.1; have z2 := zp.den; have z3 := zq.1; have z4 := zq.den
    refine ⟨_, (pss_one (ps_ret (pe_fn T.f_ratio (ok_ratio T) (hr.mono (by decide)) (pa_cons (pe_op op_mulW (pe_ix ix_seq (pv 0) pe_int (fun _ _ => rfl)) (pe_ix ix_seq (pv 1) pe_int (fun _ _ => rfl))) (pa_cons (pe_op op_mulW (pe_ix ix_seq (pv 0) pe_int (fun _ _ => rfl)) (pe_ix ix_seq (pv 1) pe_int (fun _ _ => rfl))) pa_nil))))), ?_⟩
    refine My.i_go (σ' := [some _, some _]) rfl ?_
    repeat walk_at "h"
    refine ⟨_, _, rfl, dd_pos p q, pow_le_4000 (abs_mul_lt z1 z3) (by omega), pow_le_4000 (abs_mul_lt z2 z4) (by omega), fun r H' S hr e => ?_⟩
    rw [mul_div] at e
    exact k r H' S hr e
theorem sc_over : FnScope ["one", "other"] ["one", "other"] (defScope s_over) := ⟨rfl, rfl, rfl, by decide +kernel, rfl, by decide +kernel, by decide +kernel⟩
theorem ok_over (T : Tx K mg) : FnAt P w K mg base CX0 2 (He.ga K "over") ["one", "other"] (spOver K) := by
  refine T.f_over.f.ok sc_over ?_ (fun cdv A outer s H vs Q E hr h => ?_)
  · walk_at "len"
  · obtain ⟨a, b, p, q, j, rfl, hp, hq, zp, zq, hj, h0, k⟩ := h
    have z1 := zp.1; have z2 := zp.den; have z3 := zq.1; have z4 := zq.den
    refine ⟨_, (pss_one (ps_ret (pe_fn T.f_ratio (ok_ratio T) (hr.mono (by decide)) (pa_cons (pe_op op_mulW (pe_ix ix_seq (pv 0) pe_int (fun _ _ => rfl)) (pe_ix ix_seq (pv 1) pe_int (fun _ _ => rfl))) (pa_cons (pe_op op_mulW (pe_ix ix_seq (pv 0) pe_int (fun _ _ => rfl)) (pe_ix ix_seq (pv 1) pe_int (fun _ _ => rfl))) pa_nil))))), ?_⟩
    refine My.i_go (σ' := [some _, some _]) rfl ?_
    repeat walk_at "h"
    refine ⟨_, _, rfl, dn_pos p h0, pow_le_4000 (abs_mul_lt z1 z4) (by omega), pow_le_4000 (abs_mul_lt z2 z3) (by omega), fun r H' S hr e => ?_⟩
    rw [div_div h0] at e
    exact k r H' S hr e
theorem sc__law_of : FnScope ["_law_pot_here", "_law_some"] ["_law_pot_here", "_law_some"] (defScope s__law_of) := ⟨rfl, rfl, rfl, by decide +kernel, rfl, by decide +kernel, by decide +kernel⟩
theorem ok__law_of (T : Tx K mg) : FnAt P w K mg base CX0 2 (He.ga K "_law_of") ["_law_pot_here", "_law_some"] (spOf K) := by
  refine T.f__law_of.f.ok sc__law_of ?_ (fun cdv A outer s H vs Q E hr h => ?_)
  · walk_at "len"
  · obtain ⟨p, q, xs, n, rfl, hP, hn, hqp, hx, hx0, hx1, k⟩ := h
    refine ⟨_, (pss_one (ps_ret (pe_ix ix_seq (pv 1) (pe_fn T.f__law_take (ok__law_take T) (hr.mono (by decide)) (pa_cons (pv 0) (pa_cons (pe_callB cr_len rfl T.b_len (by decide +kernel) (pa_cons (pv 1) pa_nil)) pa_nil))) (fun _ _ => rfl)))), ?_⟩
    refine My.i_go (σ' := [some _, some _]) rfl ?_
    repeat walk_at "h"
    refine i_lenL hx ?_
    repeat walk_at "h"
    refine ⟨p, xs.length, n, rfl, hP, hn, by omega, by omega, fun r H' h0 h1 hP' hB => ?_⟩
    obtain ⟨v, hv, hm⟩ := atI_mem h0 h1
    exact i_ixsL (hB.seq hqp hx) hv (k v H' hm hP' hB)
theorem sc__law_pair : FnScope ["_law_above", "_law_under", "_law_by"] ["_law_above", "_law_under"] (defScope s__law_pair) := ⟨rfl, rfl, rfl, by decide +kernel, rfl, by decide +kernel, by decide +kernel⟩
theorem ok__law_pair (T : Tx K mg) : FnAt P w K mg base CX0 2 (He.ga K "_law_pair") ["_law_above", "_law_under"] spPair := by
  refine T.f__law_pair.f.ok sc__law_pair ?_ (fun cdv A outer s H vs Q E hr h => ?_)
  · walk_at "len"
  · obtain ⟨a, b, rfl, hb, sa, sb, k⟩ := h
    refine ⟨_, (pss_cons (ps_set (i := 2) sc__law_pair.nd rfl (.inl rfl) (pe_fn T.f__law_common (ok__law_common T) (hr.mono (by decide)) (pa_cons (pv 0) (pa_cons (pv 1) pa_nil))))
      (pss_one (ps_ret (pe_tup (pa_cons (pe_op op_fdivW (pv 0) (pv 2)) (pa_cons (pe_op op_fdivW (pv 1) (pv 2)) pa_nil)))))), ?_⟩
    refine My.i_go (σ' := [some _, some _, none]) rfl ?_
    repeat walk_at "h"
    refine ⟨a, b, rfl, ?_⟩
    obtain ⟨d1, d2⟩ := gcd_div (a := a) hb sb
    repeat walk_at "h"
    rename_i p H1 S hp e
    rw [rat_div hb] at e
    exact k p H1 S hp e
theorem sc_weakening : FnScope ["ohms", "load"] ["ohms", "load"] (defScope s_weakening) := ⟨rfl, rfl, rfl, by decide +kernel, rfl, by decide +kernel, by decide +kernel⟩
theorem ok_weakening (T : Tx K mg) : FnAt P w K mg base CX0 3 (He.ga K "weakening") ["ohms", "load"] (spWeak K) := by
  refine T.f_weakening.f.ok sc_weakening ?_ (fun cdv A outer s H vs Q E hr h => ?_)
  · walk_at "len"
  · obtain ⟨a, b, r, g, j, rfl, ha, hb, zr, zg, hj, hr0, hg0, k⟩ := h
    have h1 := T.t_ONE
    refine ⟨_, (pss_cons (ps_if (pt_not (pt_val (pe_fn T.f_is_ratio (ok_is_ratio T) (hr.mono (by decide)) (pa_cons (pv 1) pa_nil)))) (pss_one ps_never) pss_nil)
      (pss_one (ps_ret (pe_fn T.f_plus (ok_plus T) (hr.mono (by decide)) (pa_cons (pe_glob (v := .ref _) rfl T.m_ONE rfl) (pa_cons (pe_fn T.f_times (ok_times T) (hr.mono (by decide)) (pa_cons (pv 0) (pa_cons (pv 1) pa_nil))) pa_nil)))))), ?_⟩
    refine My.i_go (σ' := [some _, some _]) rfl ?_
    repeat walk_at "h"
    refine ⟨_, _, rfl, hb, hg0, ?_⟩
    repeat walk_at "h"
    refine ⟨_, _, _, _, j, rfl, ha, hb, zr, zg, by omega, trivial, fun p H1 S hp e => ?_⟩
    refine ⟨_, _, (1 : Rat), _, 2 * j + 1, rfl, h1 H1, .of e, sz_one (by omega), (zr.mul zg).mono (by omega), by omega, trivial, fun q H2 S2 hq e2 => ?_⟩
    exact k q H2 (S.trans S2) (S.free hq) e2
theorem sc_covers : FnScope ["one", "other"] ["one", "other"] (defScope s_covers) := ⟨rfl, rfl, rfl, by decide +kernel, rfl, by decide +kernel, by decide +kernel⟩
theorem ok_covers (T : Tx K mg) : FnAt P w K mg base CX0 3 (He.ga K "covers") ["one", "other"] (spSrcCmp K (He.ga K "Source") strong) := by
  refine T.f_covers.f.ok sc_covers ?_ (fun cdv A outer s H vs Q E hr h => ?_)
  · walk_at "len"
  · obtain ⟨s1, s2, v, r, w1, u, j, rfl, ⟨dx, a, b, e1, hv, hr1, v0, r0⟩, ⟨dy, c, d, e2, hw, hu1, w0, u0⟩, zv, zr, zw, zu, hj, k⟩ := h
    have hc := T.c_Source
    refine ⟨_, (pss_cons (ps_if (pt_not (pt_val (pe_fn T.f_at_least (ok_at_least T) (hr.mono (by decide)) (pa_cons (pe_pr T.c_Source T.p_Source_volts (ok_Source_volts T) (hr.mono (by decide)) (pv 0)) (pa_cons (pe_pr T.c_Source T.p_Source_volts (ok_Source_volts T) (hr.mono (by decide)) (pv 1)) pa_nil))))) (pss_one (ps_ret pe_bl)) pss_nil)
      (pss_one (ps_ret (pe_fn T.f_at_least (ok_at_least T) (hr.mono (by decide)) (pa_cons (pe_fn T.f_times (ok_times T) (hr.mono (by decide)) (pa_cons (pe_pr T.c_Source T.p_Source_volts (ok_Source_volts T) (hr.mono (by decide)) (pv 0)) (pa_cons (pe_pr T.c_Source T.p_Source_ohms (ok_Source_ohms T) (hr.mono (by decide)) (pv 1)) pa_nil))) (pa_cons (pe_fn T.f_times (ok_times T) (hr.mono (by decide)) (pa_cons (pe_pr T.c_Source T.p_Source_volts (ok_Source_volts T) (hr.mono (by decide)) (pv 1)) (pa_cons (pe_pr T.c_Source T.p_Source_ohms (ok_Source_ohms T) (hr.mono (by decide)) (pv 0)) pa_nil))) pa_nil)))))), ?_⟩
    refine My.i_go (σ' := [some _, some _]) rfl ?_
    repeat walk_at "h"
    refine ⟨_, _, _, _, j, rfl, hv, hw, zv, zw, by omega, ?_⟩
    repeat walk_at "h"
    refine ite_nb (fun h1 => ?_) (fun h1 => ?_)
    · have h1 : decide (w1 ≤ v) = false := h1
      repeat walk_at "h"
      have q := k H (.refl H)
      unfold strong at q
      rw [h1] at q
      exact q
    · have h1 : decide (w1 ≤ v) = true := h1
      repeat walk_at "h"
      refine ⟨_, _, _, _, j, rfl, hv, hu1, zv, zu, by omega, trivial, fun p H1 S hp e3 => ?_⟩
      repeat walk_at "h"
      refine ⟨_, _, _, _, j, rfl, S.seqT hw, S.seqT hr1, zw, zr, by omega, trivial, fun q H2 S2 hq e4 => ?_⟩
      refine ⟨_, _, _, _, j + j, rfl, S2.seqT (.of e3), .of e4, zv.mul zu, zw.mul zr, by omega, ?_⟩
      have q := k H2 (S.trans S2)
      unfold strong at q
      rw [h1] at q
      exact q
theorem sc__law_plus : FnScope ["_law_one", "_law_other"] ["_law_one", "_law_other"] (defScope s__law_plus) := ⟨rfl, rfl, rfl, by decide +kernel, rfl, by decide +kernel, by decide +kernel⟩
theorem ok__law_plus (T : Tx K mg) : FnAt P w K mg base CX0 3 (He.ga K "_law_plus") ["_law_one", "_law_other"] (spPlus K) := by
  refine T.f__law_plus.f.ok sc__law_plus ?_ (fun cdv A outer s H vs Q E hr h => ?_)
  · walk_at "len"
  · obtain ⟨a, b, p, q, j, rfl, hp, hq, zp, zq, hj, -, k⟩ := h
    have z1 := zp.1; have z2 := zp.den; have z3 := zq.1; have z4 := zq.den
    refine ⟨_, (pss_one (ps_ret (pe_fn T.f__law_pair (ok__law_pair T) (hr.mono (by decide)) (pa_cons (pe_op op_add (pe_op op_mulW (pe_ix ix_seq (pv 0) pe_int (fun _ _ => rfl)) (pe_ix ix_seq (pv 1) pe_int (fun _ _ => rfl))) (pe_op op_mulW (pe_ix ix_seq (pv 1) pe_int (fun _ _ => rfl)) (pe_ix ix_seq (pv 0) pe_int (fun _ _ => rfl)))) (pa_cons (pe_op op_mulW (pe_ix ix_seq (pv 0) pe_int (fun _ _ => rfl)) (pe_ix ix_seq (pv 1) pe_int (fun _ _ => rfl))) pa_nil))))), ?_⟩
    refine My.i_go (σ' := [some _, some _]) rfl ?_
    repeat walk_at "h"
    refine ⟨_, _, rfl, dd_pos p q, pow_le_4000 (abs_add_lt (abs_mul_lt z1 z4) (abs_mul_lt z3 z2)) (by omega), pow_le_4000 (abs_mul_lt z2 z4) (by omega), fun r H' S hr e => ?_⟩
    rw [add_div] at e
    exact k r H' S hr e
theorem sc__law_times : FnScope ["_law_one", "_law_other"] ["_law_one", "_law_other"] (defScope s__law_times) := ⟨rfl, rfl, rfl, by decide +kernel, rfl, by decide +kernel, by decide +kernel⟩
theorem ok__law_times (T : Tx K mg) : FnAt P w K mg base CX0 3 (He.ga K "_law_times") ["_law_one", "_law_other"] (spTimes K) := by
  refine T.f__law_times.f.ok sc__law_times ?_ (fun cdv A outer s H vs Q E hr h => ?_)
  · walk_at "len"
  · obtain ⟨a, b, p, q, j, rfl, hp, hq, zp, zq, hj, -, k⟩ := h
    have z1 := zp.1; have z2 := zp.den; have z3 := zq.1; have z4 := zq.den
    refine ⟨_, (pss_one (ps_ret (pe_fn T.f__law_pair (ok__law_pair T) (hr.mono (by decide)) (pa_cons (pe_op op_mulW (pe_ix ix_seq (pv 0) pe_int (fun _ _ => rfl)) (pe_ix ix_seq (pv 1) pe_int (fun _ _ => rfl))) (pa_cons (pe_op op_mulW (pe_ix ix_seq (pv 0) pe_int (fun _ _ => rfl)) (pe_ix ix_seq (pv 1) pe_int (fun _ _ => rfl))) pa_nil))))), ?_⟩
    refine My.i_go (σ' := [some _, some _]) rfl ?_
    repeat walk_at "h"
    refine ⟨_, _, rfl, dd_pos p q, pow_le_4000 (abs_mul_lt z1 z3) (by omega), pow_le_4000 (abs_mul_lt z2 z4) (by omega), fun r H' S hr e => ?_⟩
    rw [mul_div] at e
    exact k r H' S hr e
theorem sc__law_over : FnScope ["_law_one", "_law_other"] ["_law_one", "_law_other"] (defScope s__law_over) := ⟨rfl, rfl, rfl, by decide +kernel, rfl, by decide +kernel, by decide +kernel⟩
theorem ok__law_over (T : Tx K mg) : FnAt P w K mg base CX0 3 (He.ga K "_law_over") ["_law_one", "_law_other"] (spOver K) := by
  refine T.f__law_over.f.ok sc__law_over ?_ (fun cdv A outer s H vs Q E hr h => ?_)
  · walk_at "len"
  · obtain ⟨a, b, p, q, j, rfl, hp, hq, zp, zq, hj, h0, k⟩ := h
    have z1 := zp.1; have z2 := zp.den; have z3 := zq.1; have z4 := zq.den
    refine ⟨_, (pss_one (ps_ret (pe_fn T.f__law_pair (ok__law_pair T) (hr.mono (by decide)) (pa_cons (pe_op op_mulW (pe_ix ix_seq (pv 0) pe_int (fun _ _ => rfl)) (pe_ix ix_seq (pv 1) pe_int (fun _ _ => rfl))) (pa_cons (pe_op op_mulW (pe_ix ix_seq (pv 0) pe_int (fun _ _ => rfl)) (pe_ix ix_seq (pv 1) pe_int (fun _ _ => rfl))) pa_nil))))), ?_⟩
    refine My.i_go (σ' := [some _, some _]) rfl ?_
    repeat walk_at "h"
    refine ⟨_, _, rfl, dn_pos p h0, pow_le_4000 (abs_mul_lt z1 z4) (by omega), pow_le_4000 (abs_mul_lt z2 z3) (by omega), fun r H' S hr e => ?_⟩
    rw [div_div h0] at e
    exact k r H' S hr e
theorem sc__law_ratio : FnScope ["_law_pot_here", "_law_above"] ["_law_pot_here"] (defScope s__law_ratio) := ⟨rfl, rfl, rfl, by decide +kernel, rfl, by decide +kernel, by decide +kernel⟩
theorem ok__law_ratio (T : Tx K mg) : FnAt P w K mg base CX0 3 (He.ga K "_law_ratio") ["_law_pot_here"] (spRatio K) := by
  refine T.f__law_ratio.f.ok sc__law_ratio ?_ (fun cdv A outer s H vs Q E hr h => ?_)
  · walk_at "len"
  · obtain ⟨p, n, rfl, hP, hn, k⟩ := h
    refine ⟨_, (pss_cons (ps_set (i := 1) sc__law_ratio.nd rfl (.inl rfl) (pe_fn T.f__law_of (ok__law_of T) (hr.mono (by decide)) (pa_cons (pv 0) (pa_cons (pe_lst (pa_cons (pe_fn T.f__law_take (ok__law_take T) (hr.mono (by decide)) (pa_cons (pv 0) (pa_cons pe_int pa_nil))) (pa_cons (pe_fn T.f__law_take (ok__law_take T) (hr.mono (by decide)) (pa_cons (pv 0) (pa_cons pe_int pa_nil))) (pa_cons pe_int (pa_cons (pe_op op_add (pe_op op_powW pe_int pe_int) (pe_fn T.f__law_take (ok__law_take T) (hr.mono (by decide)) (pa_cons (pv 0) (pa_cons pe_int pa_nil)))) pa_nil))))) pa_nil))))
      (pss_one (ps_ret (pe_fn T.f__law_pair (ok__law_pair T) (hr.mono (by decide)) (pa_cons (pv 1) (pa_cons (pe_op op_add pe_int (pe_fn T.f__law_take (ok__law_take T) (hr.mono (by decide)) (pa_cons (pv 0) (pa_cons pe_int pa_nil)))) pa_nil)))))), ?_⟩
    refine My.i_go (σ' := [some _, none]) rfl ?_
    repeat walk_at "h"
    refine ⟨_, _, n, rfl, hP, by omega, by omega, by omega, fun d H1 d0 d1 P1 B1 => ?_⟩
    repeat walk_at "h"
    refine ⟨_, _, _, rfl, P1, by omega, by omega, by omega, fun d2 H2 d20 d21 P2 B2 => ?_⟩
    repeat walk_at "h"
    refine ⟨_, _, _, rfl, P2, by omega, by omega, by omega, fun d3 H3 d30 d31 P3 B3 => ?_⟩
    repeat walk_at "h"
    rename_i q H4 S4 hq4 e4
    have P4 := P3.same S4
    have hne : q ≠ p := (P3.ne hq4).symm
    refine ⟨_, _, _, _, rfl, P4, by omega, hne, .of e4, by show 0 < 4; decide, by show 4 < 1000000; decide, fun v H5 hv P5 B5 => ?_⟩
    have hv2 : ∃ i : Int, v = .int i ∧ 0 ≤ i ∧ i < 200000000 := by
      have e10 : (10 : Int) ^ Int.toNat 8 = 100000000 := by decide +kernel
      rw [e10] at hv
      rcases List.mem_cons.mp hv with rfl | hv
      · exact ⟨_, rfl, by omega, by omega⟩
      rcases List.mem_cons.mp hv with rfl | hv
      · exact ⟨_, rfl, by omega, by omega⟩
      rcases List.mem_cons.mp hv with rfl | hv
      · exact ⟨_, rfl, by omega, by omega⟩
      rcases List.mem_cons.mp hv with rfl | hv
      · exact ⟨_, rfl, by omega, by omega⟩
      cases hv
    obtain ⟨i, rfl, i0, i1⟩ := hv2
    repeat walk_at "h"
    refine ⟨_, _, _, rfl, P5, by omega, by omega, by omega, fun d6 H6 d60 d61 P6 B6 => ?_⟩
    repeat walk_at "h"
    refine ⟨_, _, rfl, by omega, Nat.lt_of_lt_of_le (show i.natAbs < 2 ^ 30 by omega) (Nat.pow_le_pow_right (by decide) (by decide)), Nat.lt_of_lt_of_le (show (1 + d6).natAbs < 2 ^ 30 by omega) (Nat.pow_le_pow_right (by decide) (by decide)), fun a H7 S7 ha7 e7 => ?_⟩
    have B7 : But p H H6 := (((((B1.trans B2).trans B3).trans S4.but).trans B5).trans B6)
    exact k a H7 _ (B7.trans S7.but) ((P6.same S7).mono (by omega)) (B7.free (P6.ne ha7).symm ha7) (.of e7) (div_nnI i0 (by omega)) (sz_divI (by omega) (by omega) (by omega))
theorem sc_Source___init__ : FnScope ["self", "volts", "ohms"] ["self", "volts", "ohms"] (defScope s_Source___init__) := ⟨rfl, rfl, rfl, by decide +kernel, rfl, by decide +kernel, by decide +kernel⟩
theorem ok_Source___init__ (T : Tx K mg) : FnAt P w K mg base CX0 3 (He.ma K (He.ga K "Source") "__init__") ["self", "volts", "ohms"] (spSrcInit K (He.ga K "Source")) := by
  refine T.d_Source___init__.f.ok sc_Source___init__ ?_ (fun cdv A outer s H vs Q E hr h => ?_)
  · walk_at "len"
  · obtain ⟨x, dx, a, b, v, r, rfl, hx, ha, hb, hv, hr0, k⟩ := h
    have hc := T.c_Source; have n1 := T.a_Source__volts; have n2 := T.a_Source__ohms
    refine ⟨_, (pss_cons (ps_if (pt_not (pt_val (pe_fn T.f_is_ratio (ok_is_ratio T) (hr.mono (by decide)) (pa_cons (pv 1) pa_nil)))) (pss_one ps_never) pss_nil)
      (pss_cons (ps_if (pt_not (pt_val (pe_fn T.f_is_ratio (ok_is_ratio T) (hr.mono (by decide)) (pa_cons (pv 2) pa_nil)))) (pss_one ps_never) pss_nil)
      (pss_cons (ps_fld (pv 0) (pv 1) rfl)
      (pss_one (ps_fld (pv 0) (pv 2) rfl))))), ?_⟩
    refine My.i_go (σ' := [some _, some _, some _]) rfl ?_
    repeat walk_at "h"
    refine ⟨_, _, rfl, ha, hv, ?_⟩
    repeat walk_at "h"
    refine ⟨_, _, rfl, hb, hr0, ?_⟩
    repeat walk_at "h"
    refine ⟨x, _, dx, [], rfl, hx, hc, n1, by show 0 < 1000; decide, ?_⟩
    repeat walk_at "h"
    refine ⟨x, _, dx, _, rfl, upd_same, hc, n2, by show 1 < 1000; decide, ?_⟩
    rw [upd_upd, srcF_eq]
    exact k _ But.upd upd_same
theorem sc_Source___eq__ : FnScope ["self", "other"] ["self", "other"] (defScope s_Source___eq__) := ⟨rfl, rfl, rfl, by decide +kernel, rfl, by decide +kernel, by decide +kernel⟩
theorem ok_Source___eq__ (T : Tx K mg) : FnAt P w K mg base CX0 3 (He.ma K (He.ga K "Source") "__eq__") ["self", "other"] (spSrcEq K (He.ga K "Source")) := by
  refine T.o_Source___eq__.f.ok sc_Source___eq__ ?_ (fun cdv A outer s H vs Q E hr h => ?_)
  · walk_at "len"
  · obtain ⟨s1, s2, v, r, w1, u, rfl, ⟨dx, a, b, e1, hv, hr1, v0, r0⟩, ⟨dy, c, d, e2, hw, hu1, w0, u0⟩, k⟩ := h
    have hc := T.c_Source; have n1 := T.a_Source__volts; have n2 := T.a_Source__ohms
    refine ⟨_, (pss_one (ps_ret (pe_and (pe_callB call_isi rfl T.b_isinstance (by decide +kernel) (pa_cons (pv 1) (pa_cons (pe_glob (v := .ref _) rfl T.k_Source.m rfl) pa_nil))) (pe_and (pe_cmpR (op_eqK (K := K) hr.units rfl) (pe_pr T.c_Source T.p_Source_volts (ok_Source_volts T) (hr.mono (by decide)) (pv 0)) (pe_pr T.c_Source T.p_Source_volts (ok_Source_volts T) (hr.mono (by decide)) (pv 1)) (nomark _)) (pe_one (pe_cmpR (op_eqK (K := K) hr.units rfl) (pe_pr T.c_Source T.p_Source_ohms (ok_Source_ohms T) (hr.mono (by decide)) (pv 0)) (pe_pr T.c_Source T.p_Source_ohms (ok_Source_ohms T) (hr.mono (by decide)) (pv 1)) (nomark _))))))), ?_⟩
    refine My.i_go (σ' := [some _, some _]) rfl ?_
    repeat walk_at "h"
    refine i_isiS e2 T.c_Source T.y_Source ?_
    repeat walk_at "h"
    refine i_eqDR hv hw ?_
    have q : Q (V.bl (decide (v = w1) && decide (r = u))) H := k H (.refl H)
    repeat walk_at "h"
    refine ite_b (fun c1 => ?_) (fun c1 => ?_)
    · rw [c1, Bool.true_and] at q
      repeat walk_at "h"
      exact i_eqDR hr1 hu1 q
    · rw [c1, Bool.false_and] at q
      repeat walk_at "h"
      exact q
theorem sc_Source_at : FnScope ["self", "load"] ["self", "load"] (defScope s_Source_at) := ⟨rfl, rfl, rfl, by decide +kernel, rfl, by decide +kernel, by decide +kernel⟩
theorem ok_Source_at (T : Tx K mg) : FnAt P w K mg base CX0 4 (He.ma K (He.ga K "Source") "at") ["self", "load"] (spAt K (He.ga K "Source")) := by
  refine T.d_Source_at.f.ok sc_Source_at ?_ (fun cdv A outer s H vs Q E hr h => ?_)
  · walk_at "len"
  · obtain ⟨x, b, v, r, g, j, rfl, ⟨dx, c, d, hx, hv, hr1, v0, r0⟩, hb, zv, zr, zg, hj, g0, k⟩ := h
    have hc := T.c_Source; have n1 := T.a_Source__volts; have n2 := T.a_Source__ohms
    refine ⟨_, (pss_one (ps_ret (pe_fn T.f_over (ok_over T) (hr.mono (by decide)) (pa_cons (pe_fld (pv 0) rfl) (pa_cons (pe_fn T.f_weakening (ok_weakening T) (hr.mono (by decide)) (pa_cons (pe_fld (pv 0) rfl) (pa_cons (pv 1) pa_nil))) pa_nil))))), ?_⟩
    refine My.i_go (σ' := [some _, some _]) rfl ?_
    repeat walk_at "h"
    refine ⟨_, _, _, _, j, rfl, hr1, hb, zr, zg, by omega, r0, g0, fun p H1 S hp e => ?_⟩
    refine ⟨_, _, _, _, 2 * j + 2 * j + 3, rfl, S.seqT hv, .of e, zv.mono (by omega), zr.weak zg, by omega, one_pos r0 g0, fun q H2 S2 hq e2 => ?_⟩
    exact k q H2 (S.trans S2) (S.free hq) e2
theorem sc_Source___ge__ : FnScope ["self", "other"] ["self", "other"] (defScope s_Source___ge__) := ⟨rfl, rfl, rfl, by decide +kernel, rfl, by decide +kernel, by decide +kernel⟩
theorem ok_Source___ge__ (T : Tx K mg) : FnAt P w K mg base CX0 4 (He.ma K (He.ga K "Source") "__ge__") ["self", "other"] (spSrcCmp K (He.ga K "Source") strong) := by
  refine T.o_Source___ge__.f.ok sc_Source___ge__ ?_ (fun cdv A outer s H vs Q E hr h => ?_)
  · walk_at "len"
  · obtain ⟨s1, s2, v, r, w1, u, j, rfl, h1, h2, zv, zr, zw, zu, hj, k⟩ := h
    obtain ⟨dy, c, d, e2, hw, hu1, w0, u0⟩ := id h2
    refine ⟨_, (pss_cons (ps_if (pt_not (pt_val (pe_callB call_isi rfl T.b_isinstance (by decide +kernel) (pa_cons (pv 1) (pa_cons (pe_glob (v := .ref _) rfl T.k_Source.m rfl) pa_nil))))) (pss_one ps_never) pss_nil)
      (pss_one (ps_ret (pe_fn T.f_covers (ok_covers T) (hr.mono (by decide)) (pa_cons (pv 0) (pa_cons (pv 1) pa_nil)))))), ?_⟩
    refine My.i_go (σ' := [some _, some _]) rfl ?_
    repeat walk_at "h"
    refine i_isiS e2 T.c_Source T.y_Source ?_
    repeat walk_at "h"
    exact ⟨_, _, _, _, _, _, j, rfl, h1, h2, zv, zr, zw, zu, hj, k⟩
theorem sc_Source___le__ : FnScope ["self", "other"] ["self", "other"] (defScope s_Source___le__) := ⟨rfl, rfl, rfl, by decide +kernel, rfl, by decide +kernel, by decide +kernel⟩
theorem ok_Source___le__ (T : Tx K mg) : FnAt P w K mg base CX0 4 (He.ma K (He.ga K "Source") "__le__") ["self", "other"] (spSrcCmp K (He.ga K "Source") fun v r w u => strong w u v r) := by
  refine T.o_Source___le__.f.ok sc_Source___le__ ?_ (fun cdv A outer s H vs Q E hr h => ?_)
  · walk_at "len"
  · obtain ⟨s1, s2, v, r, w1, u, j, rfl, h1, h2, zv, zr, zw, zu, hj, k⟩ := h
    obtain ⟨dy, c, d, e2, hw, hu1, w0, u0⟩ := id h2
    refine ⟨_, (pss_cons (ps_if (pt_not (pt_val (pe_callB call_isi rfl T.b_isinstance (by decide +kernel) (pa_cons (pv 1) (pa_cons (pe_glob (v := .ref _) rfl T.k_Source.m rfl) pa_nil))))) (pss_one ps_never) pss_nil)
      (pss_one (ps_ret (pe_fn T.f_covers (ok_covers T) (hr.mono (by decide)) (pa_cons (pv 1) (pa_cons (pv 0) pa_nil)))))), ?_⟩
    refine My.i_go (σ' := [some _, some _]) rfl ?_
    repeat walk_at "h"
    refine i_isiS e2 T.c_Source T.y_Source ?_
    repeat walk_at "h"
    exact ⟨_, _, _, _, _, _, j, rfl, h2, h1, zw, zu, zv, zr, hj, k⟩
theorem sc_repeated : FnScope ["source", "many"] ["source", "many"] (defScope s_repeated) := ⟨rfl, rfl, rfl, by decide +kernel, rfl, by decide +kernel, by decide +kernel⟩
theorem ok_repeated (T : Tx K mg) : FnAt P w K mg base CX0 5 (He.ga K "repeated") ["source", "many"] (spMany K (He.ga K "Source")) := by
  refine T.f_repeated.f.ok sc_repeated ?_ (fun cdv A outer s H vs Q E hr h => ?_)
  · walk_at "len"
  · obtain ⟨s1, m, v, r, j, rfl, ⟨dx, a, b, e1, hv, hr1, v0, r0⟩, m0, mz, zv, zr, j0, hj, k⟩ := h
    have hc := T.c_Source; have n1 := T.a_Source__volts; have n2 := T.a_Source__ohms
    refine ⟨_, (pss_cons (ps_if (PW.pt (pw_or (pt_not (pt_val (pe_fn T.f_is_integer (ok_is_integer T) (hr.mono (by decide)) (pa_cons (pv 1) pa_nil)))) (pw_or1 (pt_cmpR op_lt (pv 1) pe_int (nomark _))))) (pss_one ps_never) pss_nil)
      (pss_one (ps_ret (pe_mk T.k_Source (fm := T.d_Source___init__) (ok_Source___init__ T) (hr.mono (by decide)) (pa_cons (pe_fn T.f_times (ok_times T) (hr.mono (by decide)) (pa_cons (pe_pr T.c_Source T.p_Source_volts (ok_Source_volts T) (hr.mono (by decide)) (pv 0)) (pa_cons (pe_tup (pa_cons (pv 1) (pa_cons pe_int pa_nil))) pa_nil))) (pa_cons (pe_pr T.c_Source T.p_Source_ohms (ok_Source_ohms T) (hr.mono (by decide)) (pv 0)) pa_nil)))))), ?_⟩
    refine My.i_go (σ' := [some _, some _]) rfl ?_
    repeat walk_at "h"
    refine ⟨_, rfl, ?_⟩
    repeat walk_at "h"
    refine ite_dn (by omega) ?_
    repeat walk_at "h"
    rename_i t H1 S1 ht0 ht
    have et : SqT K H1 t (rat (m : Rat)) := .of ht
    refine ⟨_, _, _, _, j, rfl, S1.seqT hv, et, zv, sz_int mz j0, by omega, trivial, fun q H2 S2 hq e4 => ?_⟩
    repeat walk_at "h"
    refine i_mkS (.of e4) (S2.seqT (S1.seqT hr1)) (Rat.mul_nonneg v0 (by exact_mod_cast m0)) r0 fun x H4 S4 hs hA => ?_
    exact k x H4 ((S1.trans S2).trans S4) (S1.free (S2.free hs)) hA
theorem sc_Source_under : FnScope ["self", "load", "by"] ["self", "load"] (defScope s_Source_under) := ⟨rfl, rfl, rfl, by decide +kernel, rfl, by decide +kernel, by decide +kernel⟩
theorem ok_Source_under (T : Tx K mg) : FnAt P w K mg base CX0 5 (He.ma K (He.ga K "Source") "under") ["self", "load"] (spUnder K (He.ga K "Source")) := by
  refine T.d_Source_under.f.ok sc_Source_under ?_ (fun cdv A outer s H vs Q E hr h => ?_)
  · walk_at "len"
  · obtain ⟨x, b, v, r, g, j, rfl, ⟨dx, c, d, hx, hv, hr1, v0, r0⟩, hb, zv, zr, zg, hj, g0, k⟩ := h
    have hc := T.c_Source; have n1 := T.a_Source__volts; have n2 := T.a_Source__ohms
    refine ⟨_, (pss_cons (ps_set (i := 2) sc_Source_under.nd rfl (.inl rfl) (pe_fn T.f_weakening (ok_weakening T) (hr.mono (by decide)) (pa_cons (pe_fld (pv 0) rfl) (pa_cons (pv 1) pa_nil))))
      (pss_one (ps_ret (pe_mk T.k_Source (fm := T.d_Source___init__) (ok_Source___init__ T) (hr.mono (by decide)) (pa_cons (pe_fn T.f_over (ok_over T) (hr.mono (by decide)) (pa_cons (pe_fld (pv 0) rfl) (pa_cons (pv 2) pa_nil))) (pa_cons (pe_fn T.f_over (ok_over T) (hr.mono (by decide)) (pa_cons (pe_fld (pv 0) rfl) (pa_cons (pv 2) pa_nil))) pa_nil)))))), ?_⟩
    refine My.i_go (σ' := [some _, some _, none]) rfl ?_
    repeat walk_at "h"
    refine ⟨_, _, _, _, j, rfl, hr1, hb, zr, zg, by omega, r0, g0, fun p H1 S hp e => ?_⟩
    repeat walk_at "h"
    have p1 := one_pos r0 g0
    refine ⟨_, _, _, _, 2 * j + 2 * j + 3, rfl, S.seqT hv, .of e, zv.mono (by omega), zr.weak zg, by omega, p1, fun q H2 S2 hq e2 => ?_⟩
    repeat walk_at "h"
    refine ⟨_, _, _, _, 2 * j + 2 * j + 3, rfl, S2.seqT (S.seqT hr1), S2.seqT (.of e), zr.mono (by omega), zr.weak zg, by omega, p1, fun q3 H3 S3 hq3 e3 => ?_⟩
    refine i_mkS (S3.seqT (.of e2)) (.of e3) (div_nn v0 p1) (div_nn r0 p1) fun s H4 S4 hs hA => ?_
    exact k s H4 (((S.trans S2).trans S3).trans S4) (S.free (S2.free (S3.free hs))) hA
theorem sc_Source___add__ : FnScope ["self", "other"] ["self", "other"] (defScope s_Source___add__) := ⟨rfl, rfl, rfl, by decide +kernel, rfl, by decide +kernel, by decide +kernel⟩
theorem ok_Source___add__ (T : Tx K mg) : FnAt P w K mg base CX0 5 (He.ma K (He.ga K "Source") "__add__") ["self", "other"] (spSrcAdd K (He.ga K "Source")) := by
  refine T.o_Source___add__.f.ok sc_Source___add__ ?_ (fun cdv A outer s H vs Q E hr h => ?_)
  · walk_at "len"
  · obtain ⟨s1, s2, v, r, w1, u, j, rfl, ⟨dx, a, b, e1, hv, hr1, v0, r0⟩, ⟨dy, c, d, e2, hw, hu1, w0, u0⟩, zv, zr, zw, zu, hj, -, k⟩ := h
    have hc := T.c_Source; have n1 := T.a_Source__volts; have n2 := T.a_Source__ohms
    refine ⟨_, (pss_cons (ps_if (pt_not (pt_val (pe_callB call_isi rfl T.b_isinstance (by decide +kernel) (pa_cons (pv 1) (pa_cons (pe_glob (v := .ref _) rfl T.k_Source.m rfl) pa_nil))))) (pss_one ps_never) pss_nil)
      (pss_one (ps_ret (pe_mk T.k_Source (fm := T.d_Source___init__) (ok_Source___init__ T) (hr.mono (by decide)) (pa_cons (pe_fn T.f_plus (ok_plus T) (hr.mono (by decide)) (pa_cons (pe_fld (pv 0) rfl) (pa_cons (pe_pr T.c_Source T.p_Source_volts (ok_Source_volts T) (hr.mono (by decide)) (pv 1)) pa_nil))) (pa_cons (pe_fn T.f_plus (ok_plus T) (hr.mono (by decide)) (pa_cons (pe_fld (pv 0) rfl) (pa_cons (pe_pr T.c_Source T.p_Source_ohms (ok_Source_ohms T) (hr.mono (by decide)) (pv 1)) pa_nil))) pa_nil)))))), ?_⟩
    refine My.i_go (σ' := [some _, some _]) rfl ?_
    repeat walk_at "h"
    refine i_isiS e2 T.c_Source T.y_Source ?_
    repeat walk_at "h"
    refine ⟨_, _, _, _, j, rfl, hv, hw, zv, zw, by omega, trivial, fun p H1 S hp e => ?_⟩
    repeat walk_at "h"
    refine ⟨_, _, _, _, j, rfl, S.seqT hr1, S.seqT hu1, zr, zu, by omega, trivial, fun q H2 S2 hq e4 => ?_⟩
    repeat walk_at "h"
    refine i_mkS (S2.seqT (.of e)) (.of e4) (add_nn v0 w0) (add_nn r0 u0) fun x H4 S4 hs hA => ?_
    exact k x H4 ((S.trans S2).trans S4) (S.free (S2.free hs)) hA
theorem sc_Source___and__ : FnScope ["self", "other", "total", "volts"] ["self", "other"] (defScope s_Source___and__) := ⟨rfl, rfl, rfl, by decide +kernel, rfl, by decide +kernel, by decide +kernel⟩
theorem ok_Source___and__ (T : Tx K mg) : FnAt P w K mg base CX0 5 (He.ma K (He.ga K "Source") "__and__") ["self", "other"] (spSrcAnd K (He.ga K "Source")) := by
  refine T.o_Source___and__.f.ok sc_Source___and__ ?_ (fun cdv A outer s H vs Q E hr h => ?_)
  · walk_at "len"
  · obtain ⟨s1, s2, v, r, w1, u, j, rfl, ⟨dx, a, b, e1, hv, hr1, v0, r0⟩, ⟨dy, c, d, e2, hw, hu1, w0, u0⟩, zv, zr, zw, zu, hj, h0, k⟩ := h
    have hc := T.c_Source; have n1 := T.a_Source__volts; have n2 := T.a_Source__ohms
    refine ⟨_, (pss_cons (ps_if (pt_not (pt_val (pe_callB call_isi rfl T.b_isinstance (by decide +kernel) (pa_cons (pv 1) (pa_cons (pe_glob (v := .ref _) rfl T.k_Source.m rfl) pa_nil))))) (pss_one ps_never) pss_nil)
      (pss_cons (ps_set (i := 2) sc_Source___and__.nd rfl (.inl rfl) (pe_fn T.f_plus (ok_plus T) (hr.mono (by decide)) (pa_cons (pe_fld (pv 0) rfl) (pa_cons (pe_pr T.c_Source T.p_Source_ohms (ok_Source_ohms T) (hr.mono (by decide)) (pv 1)) pa_nil))))
      (pss_cons (ps_if (pt_cmpR op_eq (pe_ix ix_seq (pv 2) pe_int (fun _ _ => rfl)) pe_int (nomark _)) (pss_one ps_never) pss_nil)
      (pss_cons (ps_set (i := 3) sc_Source___and__.nd rfl (.inl rfl) (pe_fn T.f_plus (ok_plus T) (hr.mono (by decide)) (pa_cons (pe_fn T.f_times (ok_times T) (hr.mono (by decide)) (pa_cons (pe_fld (pv 0) rfl) (pa_cons (pe_pr T.c_Source T.p_Source_ohms (ok_Source_ohms T) (hr.mono (by decide)) (pv 1)) pa_nil))) (pa_cons (pe_fn T.f_times (ok_times T) (hr.mono (by decide)) (pa_cons (pe_pr T.c_Source T.p_Source_volts (ok_Source_volts T) (hr.mono (by decide)) (pv 1)) (pa_cons (pe_fld (pv 0) rfl) pa_nil))) pa_nil))))
      (pss_one (ps_ret (pe_mk T.k_Source (fm := T.d_Source___init__) (ok_Source___init__ T) (hr.mono (by decide)) (pa_cons (pe_fn T.f_over (ok_over T) (hr.mono (by decide)) (pa_cons (pv 3) (pa_cons (pv 2) pa_nil))) (pa_cons (pe_fn T.f_over (ok_over T) (hr.mono (by decide)) (pa_cons (pe_fn T.f_times (ok_times T) (hr.mono (by decide)) (pa_cons (pe_fld (pv 0) rfl) (pa_cons (pe_pr T.c_Source T.p_Source_ohms (ok_Source_ohms T) (hr.mono (by decide)) (pv 1)) pa_nil))) (pa_cons (pv 2) pa_nil))) pa_nil))))))))), ?_⟩
    refine My.i_go (σ' := [some _, some _, none, none]) rfl ?_
    repeat walk_at "h"
    refine i_isiS e2 T.c_Source T.y_Source ?_
    repeat walk_at "h"
    refine ⟨_, _, _, _, j, rfl, hr1, hu1, zr, zu, by omega, trivial, fun p H1 S hp e => ?_⟩
    have et : SqT K H1 p (rat (r + u)) := .of e
    repeat walk_at "h"
    refine i_eqF (num_zero h0) ?_
    repeat walk_at "h"
    refine ⟨_, _, _, _, j, rfl, S.seqT hv, S.seqT hu1, zv, zu, by omega, trivial, fun q H2 S2 hq e4 => ?_⟩
    repeat walk_at "h"
    refine ⟨_, _, _, _, j, rfl, S2.seqT (S.seqT hw), S2.seqT (S.seqT hr1), zw, zr, by omega, trivial, fun q3 H3 S3 hq3 e5 => ?_⟩
    repeat walk_at "h"
    refine ⟨_, _, _, _, j + j, rfl, S3.seqT (.of e4), .of e5, zv.mul zu, zw.mul zr, by omega, trivial, fun q4 H4 S4 hq4 e6 => ?_⟩
    have S14 := (S2.trans S3).trans S4
    repeat walk_at "h"
    have zt : Sz (j + j + (j + j) + 1) (r + u) := (zr.add zu).mono (by omega)
    have zm : Sz (j + j + (j + j) + 1) (r * u) := (zr.mul zu).mono (by omega)
    refine ⟨_, _, _, _, j + j + (j + j) + 1, rfl, .of e6, S14.seqT et, (zv.mul zu).add (zw.mul zr), zt, by omega, h0, fun q5 H5 S5 hq5 e7 => ?_⟩
    have S15 := S14.trans S5
    repeat walk_at "h"
    refine ⟨_, _, _, _, j, rfl, S15.seqT (S.seqT hr1), S15.seqT (S.seqT hu1), zr, zu, by omega, trivial, fun q6 H6 S6 hq6 e8 => ?_⟩
    repeat walk_at "h"
    refine ⟨_, _, _, _, j + j + (j + j) + 1, rfl, .of e8, S6.seqT (S15.seqT et), zm, zt, by omega, h0, fun q7 H7 S7 hq7 e9 => ?_⟩
    repeat walk_at "h"
    refine i_mkS (S7.seqT (S6.seqT (.of e7))) (.of e9) (div_nn (add_nn (Rat.mul_nonneg v0 u0) (Rat.mul_nonneg w0 r0)) h0) (div_nn (Rat.mul_nonneg r0 u0) h0) fun x H8 S8 hs hA => ?_
    have S18 := ((S15.trans S6).trans S7).trans S8
    exact k x H8 (S.trans S18) (S.free (S15.free (S6.free (S7.free hs)))) hA
theorem sc__law_is_beside : FnScope ["_law_one", "_law_load", "_law_bare"] ["_law_one", "_law_load"] (defScope s__law_is_beside) := ⟨rfl, rfl, rfl, by decide +kernel, rfl, by decide +kernel, by decide +kernel⟩
theorem ok__law_is_beside (T : Tx K mg) : FnAt P w K mg base CX0 6 (He.ga K "_law_is_beside") ["_law_one", "_law_load"] (spBeside K (He.ga K "Source")) := by
  refine T.f__law_is_beside.f.ok sc__law_is_beside ?_ (fun cdv A outer s H vs Q E hr h => ?_)
  · walk_at "len"
  · obtain ⟨s, a, v, r, g, rfl, h1, ha, zv, zr, zg, g0, k⟩ := h
    obtain ⟨_, _, _, _, _, _, v0, r0⟩ := id h1
    have q0 : (0 : Rat) < 1 / g := quot_pos (by decide) g0
    have qn := Rat.le_of_lt q0
    have p0 : 0 < r + 1 / g := by grind
    have p1 : 0 < 1 / g + r := by grind
    have gn := Rat.le_of_lt g0
    have zq : Sz 80 (1 / g) := (((sz_one (j := 40) (by omega)).div zg g0).mono (by omega))
    refine ⟨_, (pss_cons (ps_set (i := 2) sc__law_is_beside.nd rfl (.inl rfl) (pe_mk T.k_Source (fm := T.d_Source___init__) (ok_Source___init__ T) (hr.mono (by decide)) (pa_cons (pe_tup (pa_cons pe_int (pa_cons pe_int pa_nil))) (pa_cons (pe_fn T.f__law_over (ok__law_over T) (hr.mono (by decide)) (pa_cons (pe_tup (pa_cons pe_int (pa_cons pe_int pa_nil))) (pa_cons (pv 1) pa_nil))) pa_nil))))
      (pss_one (ps_ret (pe_and (pe_cmpR (cm_own T.o_Source___eq__ rfl (fun _ _ => rfl) (ok_Source___eq__ T) (hr.mono (by decide))) (pe_me T.c_Source T.d_Source_under (ok_Source_under T) (hr.mono (by decide)) (pv 0) (pa_cons (pv 1) pa_nil)) (pe_op (op_own T.o_Source___and__ rfl (ok_Source___and__ T) (hr.mono (by decide)) T.s_Source) (pv 0) (pv 2)) (nomark _)) (pe_one (pe_cmpR (cm_own T.o_Source___eq__ rfl (fun _ _ => rfl) (ok_Source___eq__ T) (hr.mono (by decide))) (pe_me T.c_Source T.d_Source_under (ok_Source_under T) (hr.mono (by decide)) (pv 0) (pa_cons (pv 1) pa_nil)) (pe_op (op_own T.o_Source___and__ rfl (ok_Source___and__ T) (hr.mono (by decide)) T.s_Source) (pv 2) (pv 0)) (nomark _))))))), ?_⟩
    refine My.i_go (σ' := [some _, some _, none]) rfl ?_
    repeat walk_at "h"
    rename_i t0 H1 S1 ht00 ht0 t1 H2 S2 ht10 ht1
    have et0 : SqT K H1 t0 (rat 0) := .of ht0
    have et1 : SqT K H2 t1 (rat 1) := .of ht1
    refine ⟨_, _, _, _, 40, rfl, et1, S2.seqT (S1.seqT ha), sz_one (by omega), zg, by omega, g0, fun p3 H3 S3 hp3 e3 => ?_⟩
    repeat walk_at "h"
    refine i_mkS (S3.seqT (S2.seqT et0)) (.of e3) (by decide) qn fun b H4 S4 hb hB => ?_
    have S14 := ((S1.trans S2).trans S3).trans S4
    have h4 := h1.same S14
    have ha4 := S14.seqT ha
    repeat walk_at "h"
    refine ⟨_, _, _, _, _, 40, rfl, h4, ha4, zv, zr, zg, by omega, gn, fun u1 H5 S5 hu1 A5 => ?_⟩
    repeat walk_at "h"
    refine i_src2 (j := 80) (h4.same S5) (hB.same S5) (zv.mono (by omega)) (zr.mono (by omega)) (sz_zero.mono (by omega)) zq (by omega) p0 fun u2 H6 S6 hu2 A6 => ?_
    repeat walk_at "h"
    refine i_srcEq (A5.same S6) A6 fun H7 S7 => ?_
    rw [decide_eq_true (beside_v r0 g0), decide_eq_true (beside_r r0 g0), Bool.and_self]
    have S47 := (S5.trans S6).trans S7
    have h7 := h4.same S47
    have hB7 := hB.same S47
    have ha7 := S47.seqT ha4
    obtain ⟨_, _, _, f7, _⟩ := id h7
    repeat walk_at "h"
    refine ⟨_, _, _, _, _, 40, rfl, h7, ha7, zv, zr, zg, by omega, gn, fun u3 H8 S8 hu3 A8 => ?_⟩
    repeat walk_at "h"
    refine i_src2 (j := 80) (hB7.same S8) (h7.same S8) (sz_zero.mono (by omega)) zq (zv.mono (by omega)) (zr.mono (by omega)) (by omega) p1 fun u4 H9 S9 hu4 A9 => ?_
    repeat walk_at "h"
    refine i_srcEq (A8.same S9) A9 fun H10 S10 => ?_
    rw [decide_eq_true (beside_v2 r0 g0), decide_eq_true (beside_r2 r0 g0), Bool.and_self]
    exact k H10 ((S14.trans S47).trans ((S8.trans S9).trans S10))
theorem sc__law_are_joined : FnScope ["_law_one", "_law_other", "_law_third"] ["_law_one", "_law_other", "_law_third"] (defScope s__law_are_joined) := ⟨rfl, rfl, rfl, by decide +kernel, rfl, by decide +kernel, by decide +kernel⟩
theorem ok__law_are_joined (T : Tx K mg) : FnAt P w K mg base CX0 6 (He.ga K "_law_are_joined") ["_law_one", "_law_other", "_law_third"] (spJoined K (He.ga K "Source")) := by
  refine T.f__law_are_joined.f.ok sc__law_are_joined ?_ (fun cdv A outer s H vs Q E hr h => ?_)
  · walk_at "len"
  · obtain ⟨s1, s2, s3, v1, r1, v2, r2, v3, r3, rfl, h1, h2, h3, z1, y1, z2, y2, z3, y3, p1, p2, p3, k⟩ := h
    obtain ⟨_, _, _, _, _, _, n1, m1⟩ := id h1
    obtain ⟨_, _, _, _, _, _, n2, m2⟩ := id h2
    obtain ⟨_, _, _, _, _, _, n3, m3⟩ := id h3
    have p12 : 0 < r1 + r2 := add_pos p1 m2
    have p23 : 0 < r2 + r3 := add_pos p2 m3
    have p21 : 0 < r2 + r1 := add_pos p2 m1
    refine ⟨_, (pss_cons (ps_if (PW.pt (pw_or (pt_cmpR (ne_own T.n_Source T.o_Source___eq__ (ok_Source___eq__ T) (hr.mono (by decide))) (pe_op (op_own T.o_Source___add__ rfl (ok_Source___add__ T) (hr.mono (by decide)) T.s_Source) (pv 0) (pv 1)) (pe_op (op_own T.o_Source___add__ rfl (ok_Source___add__ T) (hr.mono (by decide)) T.s_Source) (pv 1) (pv 0)) (nomark _)) (pw_or1 (pt_cmpR (ne_own T.n_Source T.o_Source___eq__ (ok_Source___eq__ T) (hr.mono (by decide))) (pe_op (op_own T.o_Source___add__ rfl (ok_Source___add__ T) (hr.mono (by decide)) T.s_Source) (pe_op (op_own T.o_Source___add__ rfl (ok_Source___add__ T) (hr.mono (by decide)) T.s_Source) (pv 0) (pv 1)) (pv 2)) (pe_op (op_own T.o_Source___add__ rfl (ok_Source___add__ T) (hr.mono (by decide)) T.s_Source) (pv 0) (pe_op (op_own T.o_Source___add__ rfl (ok_Source___add__ T) (hr.mono (by decide)) T.s_Source) (pv 1) (pv 2))) (nomark _))))) (pss_one (ps_ret pe_bl)) pss_nil)
      (pss_cons (ps_if (PW.pt (pw_or (pt_cmpR (ne_own T.n_Source T.o_Source___eq__ (ok_Source___eq__ T) (hr.mono (by decide))) (pe_op (op_own T.o_Source___and__ rfl (ok_Source___and__ T) (hr.mono (by decide)) T.s_Source) (pv 0) (pv 1)) (pe_op (op_own T.o_Source___and__ rfl (ok_Source___and__ T) (hr.mono (by decide)) T.s_Source) (pv 1) (pv 0)) (nomark _)) (pw_or1 (pt_cmpR (ne_own T.n_Source T.o_Source___eq__ (ok_Source___eq__ T) (hr.mono (by decide))) (pe_op (op_own T.o_Source___and__ rfl (ok_Source___and__ T) (hr.mono (by decide)) T.s_Source) (pe_op (op_own T.o_Source___and__ rfl (ok_Source___and__ T) (hr.mono (by decide)) T.s_Source) (pv 0) (pv 1)) (pv 2)) (pe_op (op_own T.o_Source___and__ rfl (ok_Source___and__ T) (hr.mono (by decide)) T.s_Source) (pv 0) (pe_op (op_own T.o_Source___and__ rfl (ok_Source___and__ T) (hr.mono (by decide)) T.s_Source) (pv 1) (pv 2))) (nomark _))))) (pss_one (ps_ret pe_bl)) pss_nil)
      (pss_one (ps_ret (pe_and (pe_cmpR (op_eqK (K := K) hr.units rfl) (pe_pr T.c_Source T.p_Source_volts (ok_Source_volts T) (hr.mono (by decide)) (pe_op (op_own T.o_Source___and__ rfl (ok_Source___and__ T) (hr.mono (by decide)) T.s_Source) (pv 0) (pv 0))) (pe_pr T.c_Source T.p_Source_volts (ok_Source_volts T) (hr.mono (by decide)) (pv 0)) (nomark _)) (pe_one (pe_cmpR (cm_own T.o_Source___ge__ rfl (fun _ _ => rfl) (ok_Source___ge__ T) (hr.mono (by decide))) (pe_op (op_own T.o_Source___and__ rfl (ok_Source___and__ T) (hr.mono (by decide)) T.s_Source) (pv 0) (pv 0)) (pv 0) (nomark _)))))))), ?_⟩
    refine My.i_go (σ' := [some _, some _, some _]) rfl ?_
    repeat walk_at "h"
    refine i_src2 (j := 40) h1 h2 z1 y1 z2 y2 (by omega) trivial fun a1 H1 S1 _ A1 => ?_
    repeat walk_at "h"
    refine i_src2 (j := 40) (h2.same S1) (h1.same S1) z2 y2 z1 y1 (by omega) trivial fun a2 H2 S2 _ A2 => ?_
    repeat walk_at "h"
    refine i_srcNe (A1.same S2) A2 fun H3 S3 => ?_
    rw [decide_eq_true (Rat.add_comm v1 v2), decide_eq_true (Rat.add_comm r1 r2), Bool.and_self]
    have T := (S1.trans S2).trans S3
    have h1 := h1.same T
    have h2 := h2.same T
    have h3 := h3.same T
    repeat walk_at "h"
    refine i_src2 (j := 40) h1 h2 z1 y1 z2 y2 (by omega) trivial fun a1 H4 S4 _ A1 => ?_
    repeat walk_at "h"
    refine i_src2 (j := 81) A1 (h3.same S4) (z1.add z2) (y1.add y2) (z3.mono (by omega)) (y3.mono (by omega)) (by omega) trivial fun a2 H5 S5 _ A2 => ?_
    repeat walk_at "h"
    refine i_src2 (j := 40) ((h2.same S4).same S5) ((h3.same S4).same S5) z2 y2 z3 y3 (by omega) trivial fun a3 H6 S6 _ A3 => ?_
    repeat walk_at "h"
    refine i_src2 (j := 81) (((h1.same S4).same S5).same S6) A3 (z1.mono (by omega)) (y1.mono (by omega)) (z2.add z3) (y2.add y3) (by omega) trivial fun a4 H7 S7 _ A4 => ?_
    repeat walk_at "h"
    refine i_srcNe ((A2.same S6).same S7) A4 fun H8 S8 => ?_
    rw [decide_eq_true (Rat.add_assoc v1 v2 v3), decide_eq_true (Rat.add_assoc r1 r2 r3), Bool.and_self]
    have T2 := (((S4.trans S5).trans S6).trans S7).trans S8
    have h1 := h1.same T2
    have h2 := h2.same T2
    have h3 := h3.same T2
    repeat walk_at "h"
    refine i_src2 (j := 40) h1 h2 z1 y1 z2 y2 (by omega) p12 fun a1 H11 S11 _ A1 => ?_
    repeat walk_at "h"
    refine i_src2 (j := 40) (h2.same S11) (h1.same S11) z2 y2 z1 y1 (by omega) p21 fun a2 H12 S12 _ A2 => ?_
    repeat walk_at "h"
    refine i_srcNe (A1.same S12) A2 fun H13 S13 => ?_
    rw [decide_eq_true and_comm_v, decide_eq_true and_comm_r, Bool.and_self]
    have T3 := (S11.trans S12).trans S13
    have h1 := h1.same T3
    have h2 := h2.same T3
    have h3 := h3.same T3
    repeat walk_at "h"
    refine i_src2 (j := 40) h1 h2 z1 y1 z2 y2 (by omega) p12 fun a1 H14 S14 _ A1 => ?_
    repeat walk_at "h"
    refine i_src2 (j := 322) A1 (h3.same S14) (z1.andV y1 z2 y2 p12) (y1.andR y2 p12) (z3.mono (by omega)) (y3.mono (by omega)) (by omega) (add_pos (quot_pos (Rat.mul_pos p1 p2) p12) m3) fun a2 H15 S15 _ A2 => ?_
    repeat walk_at "h"
    refine i_src2 (j := 40) ((h2.same S14).same S15) ((h3.same S14).same S15) z2 y2 z3 y3 (by omega) p23 fun a3 H16 S16 _ A3 => ?_
    repeat walk_at "h"
    refine i_src2 (j := 322) (((h1.same S14).same S15).same S16) A3 (z1.mono (by omega)) (y1.mono (by omega)) (z2.andV y2 z3 y3 p23) (y2.andR y3 p23) (by omega) (add_pos p1 (Rat.le_of_lt (quot_pos (Rat.mul_pos p2 p3) p23))) fun a4 H17 S17 _ A4 => ?_
    repeat walk_at "h"
    refine i_srcNe ((A2.same S16).same S17) A4 fun H18 S18 => ?_
    rw [decide_eq_true (and_assoc_v p1 p2 p3), decide_eq_true (and_assoc_r p1 p2 p3), Bool.and_self]
    have T4 := (((S14.trans S15).trans S16).trans S17).trans S18
    have h1 := h1.same T4
    have p11 : 0 < r1 + r1 := add_pos p1 m1
    repeat walk_at "h"
    refine i_src2 (j := 40) h1 h1 z1 y1 z1 y1 (by omega) p11 fun a5 H19 S19 _ A5 => ?_
    obtain ⟨_, c5, _, f5, g5, _⟩ := id A5
    obtain ⟨_, c6, _, f6, g6, _⟩ := id (h1.same S19)
    repeat walk_at "h"
    refine i_eqDR g5 g6 ?_
    rw [decide_eq_true (same_v p1)]
    repeat walk_at "h"
    refine i_src2 (j := 40) (h1.same S19) (h1.same S19) z1 y1 z1 y1 (by omega) p11 fun a6 H20 S20 _ A6 => ?_
    repeat walk_at "h"
    refine i_srcCmp (j := 322) A6 ((h1.same S19).same S20) (z1.andV y1 z1 y1 p11) (y1.andR y1 p11) (z1.mono (by omega)) (y1.mono (by omega)) (by omega) fun H21 S21 => ?_
    rw [strong_same n1 p1]
    exact k H21 (((T.trans T2).trans (T3.trans T4)).trans ((S19.trans S20).trans S21))
theorem sc_Source___mul__ : FnScope ["self", "other"] ["self", "other"] (defScope s_Source___mul__) := ⟨rfl, rfl, rfl, by decide +kernel, rfl, by decide +kernel, by decide +kernel⟩
theorem ok_Source___mul__ (T : Tx K mg) : FnAt P w K mg base CX0 6 (He.ma K (He.ga K "Source") "__mul__") ["self", "other"] (spMany K (He.ga K "Source")) := by
  refine T.o_Source___mul__.f.ok sc_Source___mul__ ?_ (fun cdv A outer s H vs Q E hr h => ?_)
  · walk_at "len"
  · obtain ⟨s1, m, v, r, j, rfl, h⟩ := h
    refine ⟨_, (pss_one (ps_ret (pe_fn T.f_repeated (ok_repeated T) (hr.mono (by decide)) (pa_cons (pv 0) (pa_cons (pv 1) pa_nil))))), ?_⟩
    refine My.i_go (σ' := [some _, some _]) rfl ?_
    repeat walk_at "h"
    exact ⟨s1, m, v, r, j, rfl, h⟩
theorem sc_Source___rmul__ : FnScope ["self", "other"] ["self", "other"] (defScope s_Source___rmul__) := ⟨rfl, rfl, rfl, by decide +kernel, rfl, by decide +kernel, by decide +kernel⟩
theorem ok_Source___rmul__ (T : Tx K mg) : FnAt P w K mg base CX0 6 (He.ma K (He.ga K "Source") "__rmul__") ["self", "other"] (spMany K (He.ga K "Source")) := by
  refine T.o_Source___rmul__.f.ok sc_Source___rmul__ ?_ (fun cdv A outer s H vs Q E hr h => ?_)
  · walk_at "len"
  · obtain ⟨s1, m, v, r, j, rfl, h⟩ := h
    refine ⟨_, (pss_one (ps_ret (pe_fn T.f_repeated (ok_repeated T) (hr.mono (by decide)) (pa_cons (pv 0) (pa_cons (pv 1) pa_nil))))), ?_⟩
    refine My.i_go (σ' := [some _, some _]) rfl ?_
    repeat walk_at "h"
    exact ⟨s1, m, v, r, j, rfl, h⟩
theorem sc__law_is_carried : FnScope ["_law_one", "_law_other", "_law_load", "_law_many"] ["_law_one", "_law_other", "_law_load", "_law_many"] (defScope s__law_is_carried) := ⟨rfl, rfl, rfl, by decide +kernel, rfl, by decide +kernel, by decide +kernel⟩
theorem ok__law_is_carried (T : Tx K mg) : FnAt P w K mg base CX0 7 (He.ga K "_law_is_carried") ["_law_one", "_law_other", "_law_load", "_law_many"] (spCarried K (He.ga K "Source")) := by
  refine T.f__law_is_carried.f.ok sc__law_is_carried ?_ (fun cdv A outer s H vs Q E hr h => ?_)
  · walk_at "len"
  · obtain ⟨s1, s2, a, v1, r1, v2, r2, g, m, rfl, h1, h2, ha, z1, y1, z2, y2, zg, g0, m0, mz, k⟩ := h
    obtain ⟨_, _, _, _, _, _, n1, m1⟩ := id h1
    obtain ⟨_, _, _, _, _, _, n2, m2⟩ := id h2
    refine ⟨_, (pss_cons (ps_if (pt_not (pt_cmpR (cm_own T.o_Source___ge__ rfl (fun _ _ => rfl) (ok_Source___ge__ T) (hr.mono (by decide))) (pv 0) (pv 1) (nomark _))) (pss_one (ps_ret pe_bl)) pss_nil)
      (pss_one (ps_ret (pe_and (pe_cmpR (cm_own T.o_Source___ge__ rfl (fun _ _ => rfl) (ok_Source___ge__ T) (hr.mono (by decide))) (pe_me T.c_Source T.d_Source_under (ok_Source_under T) (hr.mono (by decide)) (pv 0) (pa_cons (pv 2) pa_nil)) (pe_me T.c_Source T.d_Source_under (ok_Source_under T) (hr.mono (by decide)) (pv 1) (pa_cons (pv 2) pa_nil)) (nomark _)) (pe_one (pe_cmpR (cm_own T.o_Source___ge__ rfl (fun _ _ => rfl) (ok_Source___ge__ T) (hr.mono (by decide))) (pe_op (op_ownI T.o_Source___mul__ (ok_Source___mul__ T) (hr.mono (by decide)) T.s_Source T.q_Source) (pv 0) (pv 3)) (pe_op (op_ownR T.o_Source___rmul__ (ok_Source___rmul__ T) (hr.mono (by decide)) T.s_Source T.q_Source) (pv 3) (pv 1)) (nomark _))))))), ?_⟩
    refine My.i_go (σ' := [some _, some _, some _, some _]) rfl ?_
    repeat walk_at "h"
    refine i_srcCmp (j := 40) h1 h2 z1 y1 z2 y2 (by omega) fun H1 S1 => ?_
    have h1 := h1.same S1
    have h2 := h2.same S1
    have ha := S1.seqT ha
    repeat walk_at "h"
    refine ite_nb (fun _ => ?_) (fun c1 => ?_)
    case refine_1 =>
      repeat walk_at "h"
      exact k H1 S1
    repeat walk_at "h"
    obtain ⟨_, _, _, f1, _⟩ := id h1
    repeat walk_at "h"
    refine ⟨_, _, _, _, _, 40, rfl, h1, ha, z1, y1, zg, by omega, g0, fun u1 H2 S2 _ A1 => ?_⟩
    obtain ⟨_, _, _, f2, _⟩ := id (h2.same S2)
    repeat walk_at "h"
    refine ⟨_, _, _, _, _, 40, rfl, h2.same S2, S2.seqT ha, z2, y2, zg, by omega, g0, fun u2 H3 S3 _ A2 => ?_⟩
    repeat walk_at "h"
    refine i_srcCmp (j := 326) (A1.same S3) A2 (z1.read y1 zg m1 g0) (y1.read y1 zg m1 g0) (z2.read y2 zg m2 g0) (y2.read y2 zg m2 g0) (by omega) fun H4 S4 => ?_
    rw [strong_under c1 m1 m2 g0]
    have T := (S2.trans S3).trans S4
    repeat walk_at "h"
    refine i_manyI (j := 40) (h1.same T) m0 mz z1 y1 (by omega) (by omega) fun u3 H5 S5 _ A3 => ?_
    repeat walk_at "h"
    refine i_manyR (j := 40) ((h2.same T).same S5) m0 mz z2 y2 (by omega) (by omega) fun u4 H6 S6 _ A4 => ?_
    repeat walk_at "h"
    have zm : Sz 40 (m : Rat) := sz_int mz (by omega)
    refine i_srcCmp (j := 80) (A3.same S6) A4 (z1.mul zm) (y1.mono (by omega)) (z2.mul zm) (y2.mono (by omega)) (by omega) fun H7 S7 => ?_
    rw [strong_many c1 (by exact_mod_cast m0)]
    exact k H7 ((S1.trans T).trans ((S5.trans S6).trans S7))
theorem sc__law_right : FnScope ["_law_pot_here", "_law_rows", "_law_lap", "_law_volts", "_law_ohms", "_law_one", "_law_other", "_law_third", "_law_load", "_law_more", "_law_many", "_law_firm"] ["_law_pot_here"] (defScope s__law_right) := ⟨rfl, rfl, rfl, by decide +kernel, rfl, by decide +kernel, by decide +kernel⟩
theorem ok__law_right (T : Tx K mg) : FnGAt P w K mg base CX0 8 (He.ga K "_law_right") ["_law_pot_here"] (spRound 60) := by
  refine fun_okG T.f__law_right.f sc__law_right ?_ (fun cdv A outer s H vs Q E hgd hr h => ?_)
  · walk_at "len"
  · obtain ⟨p, n, rfl, hP, hn, k⟩ := h
    refine ⟨_, (pss_cons (ps_set (i := 1) sc__law_right.nd rfl (.inl rfl) (pe_lst pa_nil))
      (pss_cons (ps_for PassesOwn.never rfl (pi_range1 rfl T.b_range (pa_cons pe_int pa_nil)) (pg_name (i := 2) sc__law_right.nd rfl (.inl rfl)) (pss_cons (ps_par (i := 3) (j := 4) rfl sc__law_right.nd rfl rfl (by decide) rfl rfl (pa_cons (pe_fn T.f__law_ratio (ok__law_ratio T) (hr.mono (by decide)) (pa_cons (pv 0) pa_nil)) (pa_cons (pe_fn T.f__law_ratio (ok__law_ratio T) (hr.mono (by decide)) (pa_cons (pv 0) pa_nil)) pa_nil)) rfl)
      (pss_one (ps_expr (pe_bm PySem.F.plainAttrs_list PySem.F.slot_list_append PySem.F.type_list_append mt_append (pv 1) (pa_cons (pe_mk T.k_Source (fm := T.d_Source___init__) (ok_Source___init__ T) (hr.mono (by decide)) (pa_cons (pv 3) (pa_cons (pe_ifExp (pt_cmpR op_gt (pe_ix ix_seq (pv 4) pe_int (fun _ _ => rfl)) pe_int (nomark _)) (pv 4) (pe_fn T.f__law_pair (ok__law_pair T) (hr.mono (by decide)) (pa_cons (pe_op op_add pe_int (pe_fn T.f__law_take (ok__law_take T) (hr.mono (by decide)) (pa_cons (pv 0) (pa_cons pe_int pa_nil)))) (pa_cons (pe_op op_add pe_int (pe_fn T.f__law_take (ok__law_take T) (hr.mono (by decide)) (pa_cons (pv 0) (pa_cons pe_int pa_nil)))) pa_nil)))) pa_nil))) pa_nil))))))
      (pss_cons (ps_asg (pv 1) (pg_unl rfl (pgs_cons (pg_name (i := 5) sc__law_right.nd rfl (.inl rfl)) (pgs_cons (pg_name (i := 6) sc__law_right.nd rfl (.inl rfl)) (pgs_cons (pg_name (i := 7) sc__law_right.nd rfl (.inl rfl)) pgs_nil)))))
      (pss_cons (ps_asg (pe_lc (own := [("_law_lap", 2)]) rfl sc__law_right.nd (pi_range1 rfl T.b_range (pa_cons pe_int pa_nil)) (blkOk_by (own := [("_law_lap", 2)]) (N := ["_law_pot_here", "_law_rows", "_law_lap", "_law_volts", "_law_ohms", "_law_one", "_law_other", "_law_third", "_law_load", "_law_more", "_law_many", "_law_firm"]) (sc := defScope s__law_right) (by decide +kernel)) (fun _ _ _ _ _ => (pg_name (i := 2) sc__law_right.nd rfl (.inl rfl))) (fun _ _ _ _ _ => pts_nil) (fun _ _ _ _ _ => (pe_fn T.f__law_pair (ok__law_pair T) (hr.mono (by decide)) (pa_cons (pe_op op_add pe_int (pe_fn T.f__law_take (ok__law_take T) (hr.mono (by decide)) (pa_cons (pv 0) (pa_cons pe_int pa_nil)))) (pa_cons (pe_op op_add pe_int (pe_fn T.f__law_take (ok__law_take T) (hr.mono (by decide)) (pa_cons (pv 0) (pa_cons pe_int pa_nil)))) pa_nil))))) (pg_unl rfl (pgs_cons (pg_name (i := 8) sc__law_right.nd rfl (.inl rfl)) (pgs_cons (pg_name (i := 9) sc__law_right.nd rfl (.inl rfl)) pgs_nil))))
      (pss_cons (ps_par (i := 10) (j := 11) rfl sc__law_right.nd rfl rfl (by decide) rfl rfl (pa_cons (pe_fn T.f__law_take (ok__law_take T) (hr.mono (by decide)) (pa_cons (pv 0) (pa_cons pe_int pa_nil))) (pa_cons (pe_mk T.k_Source (fm := T.d_Source___init__) (ok_Source___init__ T) (hr.mono (by decide)) (pa_cons (pe_pr T.c_Source T.p_Source_volts (ok_Source_volts T) (hr.mono (by decide)) (pv 5)) (pa_cons (pe_tup (pa_cons pe_int (pa_cons pe_int pa_nil))) pa_nil))) pa_nil)) rfl)
      (pss_cons (ps_if (PW.pt (pw_or (pt_cmpR (ne_own T.n_Source T.o_Source___eq__ (ok_Source___eq__ T) (hr.mono (by decide))) (pe_me T.c_Source T.d_Source_under (ok_Source_under T) (hr.mono (by decide)) (pe_me T.c_Source T.d_Source_under (ok_Source_under T) (hr.mono (by decide)) (pv 5) (pa_cons (pv 8) pa_nil)) (pa_cons (pv 9) pa_nil)) (pe_me T.c_Source T.d_Source_under (ok_Source_under T) (hr.mono (by decide)) (pv 5) (pa_cons (pe_fn T.f__law_plus (ok__law_plus T) (hr.mono (by decide)) (pa_cons (pv 8) (pa_cons (pv 9) pa_nil))) pa_nil)) (nomark _)) (pw_or1 (pt_cmpR (ne_own T.n_Source T.o_Source___eq__ (ok_Source___eq__ T) (hr.mono (by decide))) (pe_me T.c_Source T.d_Source_under (ok_Source_under T) (hr.mono (by decide)) (pv 5) (pa_cons (pe_tup (pa_cons pe_int (pa_cons pe_int pa_nil))) pa_nil)) (pv 5) (nomark _))))) (pss_one (ps_ret pe_bl)) pss_nil)
      (pss_cons (ps_if (PW.pt (pw_or (pt_not (pt_val (pe_fn T.f__law_is_beside (ok__law_is_beside T) (hr.mono (by decide)) (pa_cons (pv 5) (pa_cons (pv 8) pa_nil))))) (pw_or (pt_not (pt_val (pe_fn T.f__law_is_beside (ok__law_is_beside T) (hr.mono (by decide)) (pa_cons (pv 11) (pa_cons (pv 9) pa_nil))))) (pw_or1 (pt_cmpR (ne_own T.n_Source T.o_Source___eq__ (ok_Source___eq__ T) (hr.mono (by decide))) (pe_me T.c_Source T.d_Source_under (ok_Source_under T) (hr.mono (by decide)) (pv 11) (pa_cons (pv 8) pa_nil)) (pv 11) (nomark _)))))) (pss_one (ps_ret pe_bl)) pss_nil)
      (pss_cons (ps_if (PW.pt (pw_or (pt_cmpR op_ne (pe_callB (cr_reprD hgd hr) rfl T.b_repr (by decide +kernel) (pa_cons (pe_me T.c_Source T.d_Source_at (ok_Source_at T) (hr.mono (by decide)) (pe_op (op_ownR T.o_Source___rmul__ (ok_Source___rmul__ T) (hr.mono (by decide)) T.s_Source T.q_Source) (pv 10) (pv 5)) (pa_cons (pv 8) pa_nil)) pa_nil)) (pe_callB (cr_reprD hgd hr) rfl T.b_repr (by decide +kernel) (pa_cons (pe_fn T.f__law_times (ok__law_times T) (hr.mono (by decide)) (pa_cons (pe_tup (pa_cons (pv 10) (pa_cons pe_int pa_nil))) (pa_cons (pe_me T.c_Source T.d_Source_at (ok_Source_at T) (hr.mono (by decide)) (pv 5) (pa_cons (pv 8) pa_nil)) pa_nil))) pa_nil)) (nomark _)) (pw_or1 (pt_cmpR (ne_own T.n_Source T.o_Source___eq__ (ok_Source___eq__ T) (hr.mono (by decide))) (pe_op (op_own T.o_Source___and__ rfl (ok_Source___and__ T) (hr.mono (by decide)) T.s_Source) (pv 5) (pv 11)) (pv 11) (nomark _))))) (pss_one (ps_ret pe_bl)) pss_nil)
      (pss_cons (ps_if (PW.pt (pw_or (pt_not (pt_val (pe_fn T.f__law_are_joined (ok__law_are_joined T) (hr.mono (by decide)) (pa_cons (pv 5) (pa_cons (pv 6) (pa_cons (pv 7) pa_nil)))))) (pw_or1 (pt_not (pt_cmpR (cm_own T.o_Source___ge__ rfl (fun _ _ => rfl) (ok_Source___ge__ T) (hr.mono (by decide))) (pv 11) (pv 5) (nomark _)))))) (pss_one (ps_ret pe_bl)) pss_nil)
      (pss_one (ps_ret (pe_and (pe_fn T.f__law_is_carried (ok__law_is_carried T) (hr.mono (by decide)) (pa_cons (pv 5) (pa_cons (pv 6) (pa_cons (pv 8) (pa_cons (pv 10) pa_nil))))) (pe_one (pe_fn T.f__law_is_carried (ok__law_is_carried T) (hr.mono (by decide)) (pa_cons (pv 6) (pa_cons (pv 5) (pa_cons (pv 9) (pa_cons (pv 10) pa_nil)))))))))))))))))), ?_⟩
    refine My.i_go (σ' := [some _, none, none, none, none, none, none, none, none, none, none, none]) rfl ?_
    repeat walk_at "h"
    rename_i l H1 S1 hl0 hl
    have hlp : p ≠ l := hP.ne hl0
    refine forq_range (n := 3) (fun i σ H' => ∃ (v2 v3 v4 : Option V) (xs : List V), σ = [some (.ref p), some (.ref l), v2, v3, v4, none, none, none, none, none, none, none] ∧ But p H H' ∧ H' l = some (.lst xs) ∧ xs.length = i ∧ Pot H' p (n + 12 * i) ∧ ∀ x ∈ xs, Src4 K (He.ga K "Source") H' x) ⟨_, _, _, [], rfl, S1.but, hl, rfl, (hP.same S1).mono (by omega), fun x hx => by cases hx⟩ ?_ ?_
    · rintro i σ H2 hi ⟨v2, v3, v4, xs, rfl, B, hx, hlen, P, hW⟩
      repeat walk_at "h"
      refine ⟨_, _, rfl, P, by omega, fun a1 H3 q1 B3 P3 _ e1 q10 z1 => ?_⟩
      repeat walk_at "h"
      refine ⟨_, _, rfl, P3, by omega, fun a2 H4 q2 B4 P4 _ e2 q20 z2 => ?_⟩
      have e1 := P3.but B4 e1
      have hx4 := B4 _ _ hlp.symm (B3 _ _ hlp.symm hx)
      have BB := (B.trans B3).trans B4
      have hW := fun x h => ((hW x h).but P B3).but P3 B4
      repeat walk_at "h"
      refine ite_d2 (fun c1 => ?_) (fun c1 => ?_)
      case refine_1 =>
        repeat walk_at "h"
        refine i_mkS e1 e2 q10 q20 fun s H5 S5 _ A5 => ?_
        have hx5 := S5 _ _ hx4
        repeat walk_at "h"
        refine i_app hx5 (Nat.lt_of_le_of_lt (Nat.le_of_eq hlen) (Nat.lt_trans hi (by decide))) fun H6 B6 e6 => ?_
        repeat walk_at "h"
        refine ⟨_, _, _, xs ++ [V.ref s], rfl, fun c o hc z => B6 c o (ne_of_none z hl0) (S5 c o (BB c o hc z)), e6, by rw [List.length_append, hlen]; rfl, ((P4.same S5).butA hlp B6).mono (by omega), fun x hx => ?_⟩
        rcases List.mem_append.mp hx with hx | hx
        · exact ((hW x hx).same S5).butL hx5 B6
        · obtain rfl : x = V.ref s := by simpa using hx
          exact ⟨_, _, _, rfl, A5.butL hx5 B6, z1.mono (by omega), z2.mono (by omega), num_pos c1⟩
      repeat walk_at "h"
      refine ⟨_, _, _, rfl, P4, by omega, by omega, by omega, fun d5 H5 d50 d51 P5 B5 => ?_⟩
      repeat walk_at "h"
      refine ⟨_, _, _, rfl, P5, by omega, by omega, by omega, fun d6 H6 d60 d61 P6 B6 => ?_⟩
      repeat walk_at "h"
      refine ⟨_, _, rfl, by omega, Nat.lt_of_lt_of_le (show (1 + d5).natAbs < 2 ^ 20 by omega) (Nat.pow_le_pow_right (by decide) (by decide)), Nat.lt_of_lt_of_le (show (1 + d6).natAbs < 2 ^ 20 by omega) (Nat.pow_le_pow_right (by decide) (by decide)), fun a3 H7 S7 _ e7 => ?_⟩
      have g0 : (0 : Rat) < ((1 + d5 : Int) : Rat) / ((1 + d6 : Int) : Rat) := quot_pos (by exact_mod_cast (show 0 < 1 + d5 by omega)) (by exact_mod_cast (show 0 < 1 + d6 by omega))
      have gz : Sz 20 (((1 + d5 : Int) : Rat) / ((1 + d6 : Int) : Rat)) := sz_divI (by omega) (by omega) (by omega)
      have e7 : SqT K H7 a3 (rat (((1 + d5 : Int) : Rat) / ((1 + d6 : Int) : Rat))) := .of e7
      generalize ((1 + d5 : Int) : Rat) / ((1 + d6 : Int) : Rat) = q3 at g0 gz e7
      have hx7 := S7 _ _ (B6 _ _ hlp.symm (B5 _ _ hlp.symm hx4))
      have BB := ((BB.trans B5).trans B6).trans S7.but
      have e1 := S7.seqT (P5.but B6 (P4.but B5 e1))
      have hW := fun x h => (((hW x h).but P4 B5).but P5 B6).same S7
      have P7 := P6.same S7
      repeat walk_at "h"
      refine i_mkS e1 e7 q10 (Rat.le_of_lt g0) fun s H8 S8 _ A8 => ?_
      have hx8 := S8 _ _ hx7
      repeat walk_at "h"
      refine i_app hx8 (Nat.lt_of_le_of_lt (Nat.le_of_eq hlen) (Nat.lt_trans hi (by decide))) fun H9 B9 e9 => ?_
      repeat walk_at "h"
      refine ⟨_, _, _, xs ++ [V.ref s], rfl, fun c o hc z => B9 c o (ne_of_none z hl0) (S8 c o (BB c o hc z)), e9, by rw [List.length_append, hlen]; rfl, ((P7.same S8).butA hlp B9).mono (by omega), fun x hx => ?_⟩
      rcases List.mem_append.mp hx with hx | hx
      · exact ((hW x hx).same S8).butL hx8 B9
      · obtain rfl : x = V.ref s := by simpa using hx
        exact ⟨_, _, _, rfl, A8.butL hx8 B9, z1.mono (by omega), gz.mono (by omega), g0⟩
    · rintro σ H2 ⟨v2, v3, v4, xs, rfl, B, hx, hlen, P, hW⟩
      obtain ⟨x0, x1, x2, rfl⟩ : ∃ x0 x1 x2, xs = [x0, x1, x2] := by
        match xs, hlen with
        | [a, b, c], _ => exact ⟨a, b, c, rfl⟩
      obtain ⟨s1, v1, r1, rfl, A1, z1, y1, p1⟩ := hW x0 (by simp)
      obtain ⟨s2, v2', r2, rfl, A2, z2, y2, p2⟩ := hW x1 (by simp)
      obtain ⟨s3, v3', r3, rfl, A3, z3, y3, p3⟩ := hW x2 (by simp)
      have P : Pot H2 p (n + 36) := P.mono (by show n + 12 * ((3 : Nat) : Int) ≤ n + 36; omega)
      clear hW
      repeat walk_at "h"
      refine i_unl (.of hx) rfl ?_
      repeat walk_at "h"
      refine lcq_range (n := 2) (fun D i H' acc => But p H2 H' ∧ Pot H' p (n + 36 + 2 * i) ∧ p ≠ D ∧ H2 D = none ∧ ∀ x ∈ acc, Rat4 K H' x) (fun D H' S h e => ⟨S.but, (P.same S).mono (by omega), P.ne h, h, fun x hx => by cases hx⟩) ?_ ?_
      · rintro D i H3 acc hi hlen hD ⟨B3, P3, hne, hD0, hW⟩
        repeat walk_at "h"
        refine ⟨rfl, ?_⟩
        repeat walk_at "h"
        refine ⟨_, _, _, rfl, P3, by omega, by omega, by omega, fun d5 H5 d50 d51 P5 B5 => ?_⟩
        repeat walk_at "h"
        refine ⟨_, _, _, rfl, P5, by omega, by omega, by omega, fun d6 H6 d60 d61 P6 B6 => ?_⟩
        repeat walk_at "h"
        refine ⟨_, _, rfl, by omega, Nat.lt_of_lt_of_le (show (1 + d5).natAbs < 2 ^ 20 by omega) (Nat.pow_le_pow_right (by decide) (by decide)), Nat.lt_of_lt_of_le (show (1 + d6).natAbs < 2 ^ 20 by omega) (Nat.pow_le_pow_right (by decide) (by decide)), fun a3 H7 S7 _ e7 => ?_⟩
        have g0 : (0 : Rat) < ((1 + d5 : Int) : Rat) / ((1 + d6 : Int) : Rat) := quot_pos (by exact_mod_cast (show 0 < 1 + d5 by omega)) (by exact_mod_cast (show 0 < 1 + d6 by omega))
        have gz : Sz 20 (((1 + d5 : Int) : Rat) / ((1 + d6 : Int) : Rat)) := sz_divI (by omega) (by omega) (by omega)
        have e7 : SqT K H7 a3 (rat (((1 + d5 : Int) : Rat) / ((1 + d6 : Int) : Rat))) := .of e7
        generalize ((1 + d5 : Int) : Rat) / ((1 + d6 : Int) : Rat) = q3 at g0 gz e7
        have hD7 := S7 _ _ (B6 _ _ hne.symm (B5 _ _ hne.symm hD))
        refine turn_end hD7 hlen (by omega) fun H8 B8 e8 => ⟨fun c o hc z => B8 c o (ne_of_none z hD0) (S7 _ _ (B6 _ _ hc (B5 _ _ hc (B3 _ _ hc z)))), ((P6.same S7).butA hne B8).mono (by omega), hne, hD0, fun x hx => ?_⟩
        rcases List.mem_append.mp hx with hx | hx
        · exact ((((hW x hx).but P3 B5).but P5 B6).same S7).butL hD7 B8
        · obtain rfl : x = V.ref a3 := by simpa using hx
          exact ⟨_, _, rfl, seqT_but hD7 B8 e7, gz, g0⟩
      · rintro D H3 acc hlen hD ⟨B3, P3, hne, hD0, hW⟩
        obtain ⟨x0, x1, rfl⟩ : ∃ x0 x1, acc = [x0, x1] := by
          match acc, hlen with
          | [a, b], _ => exact ⟨a, b, rfl⟩
        obtain ⟨l1, g1, rfl, hg1, zg1, pg1⟩ := hW x0 (by simp)
        obtain ⟨l2, g2, rfl, hg2, zg2, pg2⟩ := hW x1 (by simp)
        have P3 : Pot H3 p (n + 40) := P3.mono (by show n + 36 + 2 * ((2 : Nat) : Int) ≤ n + 40; omega)
        have A1 := A1.but P B3
        have A2 := A2.but P B3
        have A3 := A3.but P B3
        have BB := B.trans B3
        clear hW B B3 P hx hlp hl S1
        repeat walk_at "h"
        refine i_unl (.of hD) rfl ?_
        repeat walk_at "h"
        refine ⟨_, _, _, rfl, P3, by omega, by omega, by omega, fun m H4 m0 m1 P4 B4 => ?_⟩
        have A1 := A1.but P3 B4
        have A2 := A2.but P3 B4
        have A3 := A3.but P3 B4
        have hg1 := P3.but B4 hg1
        have hg2 := P3.but B4 hg2
        have BB := BB.trans B4
        clear B4 P3
        obtain ⟨_, c1, c2, f1, f2, f3, n1, m1'⟩ := id A1
        obtain ⟨_, _, _, _, _, _, n2, m2'⟩ := id A2
        obtain ⟨_, _, _, _, _, _, n3, m3'⟩ := id A3
        repeat walk_at "h"
        rename_i t0 H5 S5 _ ht0
        have et0 : SqT K H5 t0 (rat 0) := .of ht0
        refine i_mkS (S5.seqT f2) et0 n1 (by decide) fun fm H6 S6 _ AF => ?_
        have S56 := S5.trans S6
        have A1 := A1.same S56
        have A2 := A2.same S56
        have A3 := A3.same S56
        have hg1 := S56.seqT hg1
        have hg2 := S56.seqT hg2
        have P6 := P4.same S56
        have BB := BB.trans S56.but
        have G1 := Rat.le_of_lt pg1
        have G2 := Rat.le_of_lt pg2
        clear S5 S6 S56 P4 ht0 et0 f1
        obtain ⟨_, c1, c2, f1, f2, f3, _⟩ := id A1
        repeat walk_at "h"
        have zg1 := zg1.mono (k := 40) (by omega)
        have zg2 := zg2.mono (k := 40) (by omega)
        have z0 : Sz 40 0 := sz_zero.mono (by omega)
        refine ⟨_, _, _, _, _, 40, rfl, A1, hg1, z1, y1, zg1, by omega, G1, fun u1 H7 S7 _ U1 => ?_⟩
        obtain ⟨_, _, _, w1, _⟩ := id U1
        repeat walk_at "h"
        refine ⟨_, _, _, _, _, 326, rfl, U1, S7.seqT hg2, z1.read y1 zg1 m1' G1, y1.read y1 zg1 m1' G1, zg2.mono (by omega), by omega, G2, fun u2 H8 S8 _ U2 => ?_⟩
        have S68 := S7.trans S8
        obtain ⟨_, _, _, w2, _⟩ := id (A1.same S68)
        repeat walk_at "h"
        refine ⟨_, _, _, _, 40, rfl, S68.seqT hg1, S68.seqT hg2, zg1, zg2, by omega, trivial, fun b3 H9 S9 _ e9 => ?_⟩
        have S69 := S68.trans S9
        repeat walk_at "h"
        refine ⟨_, _, _, _, _, 81, rfl, A1.same S69, .of e9, z1.mono (by omega), y1.mono (by omega), zg1.add zg2, by omega, add_nn G1 G2, fun u3 H10 S10 _ U3 => ?_⟩
        repeat walk_at "h"
        refine i_srcNe ((U2.same S9).same S10) U3 fun H11 S11 => ?_
        rw [decide_eq_true (under_two (v := v1) m1' G1 G2), decide_eq_true (under_two (v := v1) m1' G1 G2), Bool.and_self]
        have T11 := (S69.trans S10).trans S11
        have A1 := A1.same T11
        have A2 := A2.same T11
        have A3 := A3.same T11
        have AF := AF.same T11
        have hg1 := T11.seqT hg1
        have hg2 := T11.seqT hg2
        have P11 := P6.same T11
        have BB := BB.trans T11.but
        clear S7 S8 S9 S10 S11 S68 S69 T11 U1 U2 U3 w1 w2 f1 P6 e9
        obtain ⟨_, _, _, f1, _⟩ := id A1
        repeat walk_at "h"
        rename_i t0 H12 S12 _ ht0
        have et0 : SqT K H12 t0 (rat 0) := .of ht0
        repeat walk_at "h"
        refine ⟨_, _, _, _, _, 40, rfl, A1.same S12, et0, z1, y1, z0, by omega, by decide, fun u4 H13 S13 _ U4 => ?_⟩
        repeat walk_at "h"
        refine i_srcNe U4 ((A1.same S12).same S13) fun H14 S14 => ?_
        rw [decide_eq_true under_zero, decide_eq_true under_zero, Bool.and_self]
        repeat walk_at "h"
        have T14 := (S12.trans S13).trans S14
        have A1 := A1.same T14
        have A2 := A2.same T14
        have A3 := A3.same T14
        have AF := AF.same T14
        have hg1 := T14.seqT hg1
        have hg2 := T14.seqT hg2
        have P14 := P11.same T14
        have BB := BB.trans T14.but
        clear S12 S13 S14 T14 U4 f1 P11 et0 ht0
        refine ⟨_, _, _, _, _, rfl, A1, hg1, z1, y1, zg1, pg1, fun H15 S15 => ?_⟩
        repeat walk_at "h"
        refine ⟨_, _, _, _, _, rfl, AF.same S15, S15.seqT hg2, z1, z0, zg2, pg2, fun H16 S16 => ?_⟩
        have T16 := S15.trans S16
        obtain ⟨_, _, _, ff, _⟩ := id (AF.same T16)
        repeat walk_at "h"
        refine ⟨_, _, _, _, _, 40, rfl, AF.same T16, T16.seqT hg1, z1, z0, zg1, by omega, G1, fun u5 H17 S17 _ U5 => ?_⟩
        repeat walk_at "h"
        refine i_srcNe U5 ((AF.same T16).same S17) fun H18 S18 => ?_
        rw [decide_eq_true under_firm, decide_eq_true under_firm, Bool.and_self]
        have T18 := (T16.trans S17).trans S18
        have A1 := A1.same T18
        have A2 := A2.same T18
        have A3 := A3.same T18
        have AF := AF.same T18
        have hg1 := T18.seqT hg1
        have hg2 := T18.seqT hg2
        have P18 := P14.same T18
        have BB := BB.trans T18.but
        clear S15 S16 S17 S18 T16 T18 U5 ff P14
        have m40 : m.natAbs < 2 ^ 40 := by omega
        have zm : Sz 40 (m : Rat) := sz_int m40 (by omega)
        repeat walk_at "h"
        refine i_manyR (j := 40) A1 m0 m40 z1 y1 (by omega) (by omega) fun u6 H19 S19 _ U6 => ?_
        obtain ⟨_, _, _, w6, _⟩ := id U6
        repeat walk_at "h"
        refine ⟨_, _, _, _, _, 80, rfl, U6, S19.seqT hg1, z1.mul zm, y1.mono (by omega), zg1.mono (by omega), by omega, G1, fun b7 H20 S20 _ e7 => ?_⟩
        repeat walk_at "h"
        refine i_reprRat (k := 646) (by omega) (by omega) ((z1.mul zm).read (y1.mono (by omega)) (zg1.mono (by omega)) m1' G1) (.of e7) ?_
        have T20 := S19.trans S20
        obtain ⟨_, _, _, w8, _⟩ := id (A1.same T20)
        repeat walk_at "h"
        rename_i t8 H21 S21 _ ht8
        have et8 : SqT K H21 t8 (rat (m : Rat)) := .of ht8
        have T21 := T20.trans S21
        obtain ⟨_, _, _, w9, _⟩ := id (A1.same T21)
        repeat walk_at "h"
        refine ⟨_, _, _, _, _, 40, rfl, A1.same T21, T21.seqT hg1, z1, y1, zg1, by omega, G1, fun b9 H22 S22 _ e9 => ?_⟩
        repeat walk_at "h"
        refine ⟨_, _, _, _, 326, rfl, S22.seqT et8, .of e9, zm.mono (by omega), z1.read y1 zg1 m1' G1, by omega, trivial, fun b10 H23 S23 _ e10 => ?_⟩
        repeat walk_at "h"
        refine i_reprRat (k := 652) (by omega) (by omega) ((zm.mono (by omega)).mul (z1.read y1 zg1 m1' G1)) (.of e10) ?_
        refine i_neS (by rw [many_at]) ?_
        have T23 := (T21.trans S22).trans S23
        have A1 := A1.same T23
        have A2 := A2.same T23
        have A3 := A3.same T23
        have AF := AF.same T23
        have hg1 := T23.seqT hg1
        have hg2 := T23.seqT hg2
        have P23 := P18.same T23
        have BB := BB.trans T23.but
        clear S19 S20 S21 S22 S23 T20 T21 T23 U6 w6 w8 w9 e7 e9 e10 et8 ht8 P18
        have pf : 0 < r1 + 0 := add_pos p1 (by decide)
        repeat walk_at "h"
        refine i_src2 (j := 40) A1 AF z1 y1 z1 z0 (by omega) pf fun u11 H24 S24 _ U11 => ?_
        repeat walk_at "h"
        refine i_srcNe U11 (AF.same S24) fun H25 S25 => ?_
        rw [decide_eq_true (and_firm_v p1), decide_eq_true (and_firm_r p1), Bool.and_self]
        have T25 := S24.trans S25
        have A1 := A1.same T25
        have A2 := A2.same T25
        have A3 := A3.same T25
        have AF := AF.same T25
        have hg1 := T25.seqT hg1
        have hg2 := T25.seqT hg2
        repeat walk_at "h"
        refine ⟨_, _, _, _, _, _, _, _, _, rfl, A1, A2, A3, z1, y1, z2, y2, z3, y3, p1, p2, p3, fun H26 S26 => ?_⟩
        repeat walk_at "h"
        refine i_srcCmp (j := 40) (AF.same S26) (A1.same S26) z1 z0 z1 y1 (by omega) fun H27 S27 => ?_
        rw [strong_firm n1 m1']
        have T27 := S26.trans S27
        repeat walk_at "h"
        refine ⟨_, _, _, _, _, _, _, _, _, rfl, A1.same T27, A2.same T27, T27.seqT hg1, z1, y1, z2, y2, zg1, G1, m0, m40, fun H28 S28 => ?_⟩
        have T28 := T27.trans S28
        repeat walk_at "h"
        refine ⟨_, _, _, _, _, _, _, _, _, rfl, A2.same T28, A1.same T28, T28.seqT hg2, z2, y2, z1, y1, zg2, G2, m0, m40, fun H29 S29 => ?_⟩
        have T29 := T28.trans S29
        repeat walk_at "h"
        exact k H29 (BB.trans (T25.trans T29).but) ((P23.same (T25.trans T29)).mono (by omega))
theorem sc_law : FnScope ["_law_script", "_law_place", "_law_pot_here", "_law_lap"] ["_law_script"] (defScope s_law) := ⟨rfl, rfl, rfl, by decide +kernel, rfl, by decide +kernel, by decide +kernel⟩
theorem ok_law (T : Tx K mg) : FnGAt P w K mg base CX0 9 (He.ga K "law") ["_law_script"] (spLaw K) := by
  refine fun_okG T.f_law.f sc_law ?_ (fun cdv A outer s H vs Q E hgd hr h => ?_)
  · walk_at "len"
  · obtain ⟨a, ns, rfl, hS, hn, k⟩ := h
    refine ⟨_, (pss_cons (ps_for PassesOwn.never rfl (pi_list (pe_fn T.f__law_cells (ok__law_cells T) (hr.mono (by decide)) (pa_cons (pv 0) (pa_cons pe_int pa_nil)))) (pg_name (i := 1) sc_law.nd rfl (.inl rfl)) (pss_cons (ps_set (i := 2) sc_law.nd rfl (.inr rfl) (pe_fn T.f__law_pot (ok__law_pot T) (hr.mono (by decide)) (pa_cons (pv 0) (pa_cons (pv 1) pa_nil))))
      (pss_one (ps_if (pt_not (pt_val (pe_callB (cr_all rfl) rfl T.b_all (by decide +kernel) (pa_cons (pe_lc (own := [("_law_lap", 3)]) rfl sc_law.nd (pi_range1 rfl T.b_range (pa_cons pe_int pa_nil)) (blkOk_by (own := [("_law_lap", 3)]) (N := ["_law_script", "_law_place", "_law_pot_here", "_law_lap"]) (sc := defScope s_law) (by decide +kernel)) (fun _ _ _ _ _ => (pg_name (i := 3) sc_law.nd rfl (.inl rfl))) (fun _ _ _ _ _ => pts_nil) (fun _ _ _ _ _ => (pe_fnG T.f__law_right (ok__law_right T) hgd (hr.mono (by decide)) (pa_cons (pv 2) pa_nil)))) pa_nil)))) (pss_one (ps_ret pe_bl)) pss_nil))))
      (pss_one (ps_ret pe_bl))), ?_⟩
    refine My.i_go (σ' := [some _, none, none, none]) rfl ?_
    repeat walk_at "h"
    refine ⟨_, _, _, rfl, hS, hn, by omega, fun q H1 j hj S1 hq0 hq => ?_⟩
    repeat walk_at "h"
    have hS1 := S1.seq hS
    refine forq_list (xs := rgV 0 j) (fun i σ H' => ∃ v2 v3 v4 : Option V, σ = [some (.ref a), v2, v3, v4] ∧ Same H1 H') ⟨_, _, _, rfl, .refl _⟩ ?_ ?_ ?_
    · rintro i σ H' hi ⟨v2, v3, v4, rfl, S⟩
      exact .of (S _ _ hq)
    · rintro i x σ H' hx ⟨v2, v3, v4, rfl, S⟩
      obtain ⟨rfl, hi⟩ := rgV_at hx
      repeat walk_at "h"
      refine ⟨_, _, _, rfl, S.seq hS1, by omega, by omega, fun p H2 S2 hp P => ?_⟩
      have SS := S.trans S2
      have hp1 := S.free hp
      repeat walk_at "h"
      refine lcq_range (n := 6) (fun A i H' acc => Same H1 H' ∧ Pot H' p (60 * i) ∧ p ≠ A ∧ H1 A = none ∧ acc = List.replicate i (.bl true)) (fun A H' S h e => ⟨SS.trans S, (P.same S).mono (by omega), P.ne h, SS.free h, rfl⟩) ?_ ?_
      · rintro A i H3 acc hi hlen hA ⟨S3, P3, hne, hA1, rfl⟩
        repeat walk_at "h"
        refine ⟨rfl, ?_⟩
        repeat walk_at "h"
        refine ⟨_, _, rfl, P3, by omega, fun H4 B4 P4 => ?_⟩
        refine turn_end (B4 _ _ hne.symm hA) hlen (by omega) fun H5 B5 e5 => ⟨fun c o z => B5 c o (ne_of_none z hA1) (B4 c o (ne_of_none z hp1) (S3 c o z)), (P4.butA hne B5).mono (by omega), hne, hA1, List.replicate_succ'.symm⟩
      · rintro A H3 acc hlen hA ⟨S3, P3, hne, hA1, rfl⟩
        repeat walk_at "h"
        refine i_all (bs := List.replicate 6 true) (.of hA) ?_
        repeat walk_at "h"
        refine iteF ?_
        repeat walk_at "h"
        exact ⟨_, _, _, rfl, S3⟩
    · rintro σ H' ⟨v2, v3, v4, rfl, S⟩
      repeat walk_at "h"
      exact k H'
end
/-! ### the end -/
def ds : List Df := [⟨fun K => He.ga K "is_integer", "is_integer", "is_integer", s_is_integer⟩, ⟨fun K => He.ga K "is_ratio", "is_ratio", "is_ratio", s_is_ratio⟩, ⟨fun K => He.ga K "ratio", "ratio", "ratio", s_ratio⟩, ⟨fun K => He.ga K "plus", "plus", "plus", s_plus⟩, ⟨fun K => He.ga K "times", "times", "times", s_times⟩, ⟨fun K => He.ga K "over", "over", "over", s_over⟩, ⟨fun K => He.ga K "at_least", "at_least", "at_least", s_at_least⟩, ⟨fun K => He.ga K "weakening", "weakening", "weakening", s_weakening⟩, ⟨fun K => He.ga K "repeated", "repeated", "repeated", s_repeated⟩, ⟨fun K => He.ga K "covers", "covers", "covers", s_covers⟩, ⟨fun K => He.ga K "_law_pot", "_law_pot", "_law_pot", s__law_pot⟩, ⟨fun K => He.ga K "_law_take", "_law_take", "_law_take", s__law_take⟩, ⟨fun K => He.ga K "_law_of", "_law_of", "_law_of", s__law_of⟩, ⟨fun K => He.ga K "_law_cells", "_law_cells", "_law_cells", s__law_cells⟩, ⟨fun K => He.ga K "_law_common", "_law_common", "_law_common", s__law_common⟩, ⟨fun K => He.ga K "_law_pair", "_law_pair", "_law_pair", s__law_pair⟩, ⟨fun K => He.ga K "_law_plus", "_law_plus", "_law_plus", s__law_plus⟩, ⟨fun K => He.ga K "_law_times", "_law_times", "_law_times", s__law_times⟩, ⟨fun K => He.ga K "_law_over", "_law_over", "_law_over", s__law_over⟩, ⟨fun K => He.ga K "_law_ratio", "_law_ratio", "_law_ratio", s__law_ratio⟩, ⟨fun K => He.ga K "_law_is_beside", "_law_is_beside", "_law_is_beside", s__law_is_beside⟩, ⟨fun K => He.ga K "_law_are_joined", "_law_are_joined", "_law_are_joined", s__law_are_joined⟩, ⟨fun K => He.ga K "_law_is_carried", "_law_is_carried", "_law_is_carried", s__law_is_carried⟩, ⟨fun K => He.ga K "_law_right", "_law_right", "_law_right", s__law_right⟩, ⟨fun K => He.ga K "law", "law", "law", s_law⟩, ⟨fun K => He.ma K (He.ga K "Source") "__init__", "__init__", "Source.__init__", s_Source___init__⟩, ⟨fun K => gtOf K (He.ma K (He.ga K "Source") "volts"), "volts", "Source.volts", s_Source_volts⟩, ⟨fun K => gtOf K (He.ma K (He.ga K "Source") "ohms"), "ohms", "Source.ohms", s_Source_ohms⟩, ⟨fun K => He.ma K (He.ga K "Source") "at", "at", "Source.at", s_Source_at⟩, ⟨fun K => He.ma K (He.ga K "Source") "under", "under", "Source.under", s_Source_under⟩, ⟨fun K => He.ma K (He.ga K "Source") "__add__", "__add__", "Source.__add__", s_Source___add__⟩, ⟨fun K => He.ma K (He.ga K "Source") "__and__", "__and__", "Source.__and__", s_Source___and__⟩, ⟨fun K => He.ma K (He.ga K "Source") "__mul__", "__mul__", "Source.__mul__", s_Source___mul__⟩, ⟨fun K => He.ma K (He.ga K "Source") "__rmul__", "__rmul__", "Source.__rmul__", s_Source___rmul__⟩, ⟨fun K => He.ma K (He.ga K "Source") "__ge__", "__ge__", "Source.__ge__", s_Source___ge__⟩, ⟨fun K => He.ma K (He.ga K "Source") "__le__", "__le__", "Source.__le__", s_Source___le__⟩, ⟨fun K => He.ma K (He.ga K "Source") "__eq__", "__eq__", "Source.__eq__", s_Source___eq__⟩]
def fa : List He.Fa := [.glo "is_integer", .glo "is_ratio", .glo "ratio", .glo "plus", .glo "times", .glo "over", .glo "at_least", .glo "weakening", .glo "repeated", .glo "covers", .glo "_law_pot", .glo "_law_take", .glo "_law_of", .glo "_law_cells", .glo "_law_common", .glo "_law_pair", .glo "_law_plus", .glo "_law_times", .glo "_law_over", .glo "_law_ratio", .glo "_law_is_beside", .glo "_law_are_joined", .glo "_law_is_carried", .glo "_law_right", .glo "law", .free "list", .free "range", .free "isinstance", .free "int", .free "abs", .free "bool", .free "tuple", .free "len", .free "max", .free "repr", .free "all", .free "min", .cls "Source", .glo "Source", .mkr "Source", .noat "Source" "_volts", .noat "Source" "_ohms", .meth "Source" "__init__", .meth "Source" "at", .meth "Source" "under", .meth "Source" "__add__", .meth "Source" "__and__", .meth "Source" "__mul__", .meth "Source" "__rmul__", .meth "Source" "__ge__", .meth "Source" "__le__", .meth "Source" "__eq__", .glo "ONE"]
def exs (K : PySem.W.Frag) : List Bool := [bltB K "gcd" "math.gcd", PySem.W.selfFirst K (He.ga K "Source"), propB K "Source" "volts", propB K "Source" "ohms", He.tupB K "ONE" [.int 1, .int 1], insB K "Source", mulB K "Source", neB K (He.ga K "Source")]
def ex (K : PySem.W.Frag) : Bool := fa.all (He.Fa.ok K) && (exs K).all id
theorem tx {K : PySem.W.Frag} {h : Heap} {mg : Str → Option Value} (X : K.In h) (G : h.Ns mainGlobals mg) (c : obsK ex ds K = valK ds) : Tx K mg := by
  obtain ⟨e1, e2⟩ := He.ba (says_ex c)
  have E0 : bltB K "gcd" "math.gcd" = true := all_get e2 0 rfl
  have E1 : PySem.W.selfFirst K (He.ga K "Source") = true := all_get e2 1 rfl
  have E2 : propB K "Source" "volts" = true := all_get e2 2 rfl
  have E3 : propB K "Source" "ohms" = true := all_get e2 3 rfl
  have E4 : He.tupB K "ONE" [.int 1, .int 1] = true := all_get e2 4 rfl
  have E5 : insB K "Source" = true := all_get e2 5 rfl
  have E6 : mulB K "Source" = true := all_get e2 6 rfl
  have E7 : neB K (He.ga K "Source") = true := all_get e2 7 rfl
  exact {
    f_is_integer := gfn_of X G (all_get e1 0 rfl) (says_fun c 0 rfl) (fun _ _ _ _ _ _ us hl => match us, hl with | [_], _ => rfl)
    f_is_ratio := gfn_of X G (all_get e1 1 rfl) (says_fun c 1 rfl) (fun _ _ _ _ _ _ us hl => match us, hl with | [_], _ => rfl)
    f_ratio := gfn_of X G (all_get e1 2 rfl) (says_fun c 2 rfl) (fun _ _ _ _ _ _ us hl => match us, hl with | [_, _], _ => rfl)
    f_plus := gfn_of X G (all_get e1 3 rfl) (says_fun c 3 rfl) (fun _ _ _ _ _ _ us hl => match us, hl with | [_, _], _ => rfl)
    f_times := gfn_of X G (all_get e1 4 rfl) (says_fun c 4 rfl) (fun _ _ _ _ _ _ us hl => match us, hl with | [_, _], _ => rfl)
    f_over := gfn_of X G (all_get e1 5 rfl) (says_fun c 5 rfl) (fun _ _ _ _ _ _ us hl => match us, hl with | [_, _], _ => rfl)
    f_at_least := gfn_of X G (all_get e1 6 rfl) (says_fun c 6 rfl) (fun _ _ _ _ _ _ us hl => match us, hl with | [_, _], _ => rfl)
    f_weakening := gfn_of X G (all_get e1 7 rfl) (says_fun c 7 rfl) (fun _ _ _ _ _ _ us hl => match us, hl with | [_, _], _ => rfl)
    f_repeated := gfn_of X G (all_get e1 8 rfl) (says_fun c 8 rfl) (fun _ _ _ _ _ _ us hl => match us, hl with | [_, _], _ => rfl)
    f_covers := gfn_of X G (all_get e1 9 rfl) (says_fun c 9 rfl) (fun _ _ _ _ _ _ us hl => match us, hl with | [_, _], _ => rfl)
    f__law_pot := gfn_of X G (all_get e1 10 rfl) (says_fun c 10 rfl) (fun _ _ _ _ _ _ us hl => match us, hl with | [_, _], _ => rfl)
    f__law_take := gfn_of X G (all_get e1 11 rfl) (says_fun c 11 rfl) (fun _ _ _ _ _ _ us hl => match us, hl with | [_, _], _ => rfl)
    f__law_of := gfn_of X G (all_get e1 12 rfl) (says_fun c 12 rfl) (fun _ _ _ _ _ _ us hl => match us, hl with | [_, _], _ => rfl)
    f__law_cells := gfn_of X G (all_get e1 13 rfl) (says_fun c 13 rfl) (fun _ _ _ _ _ _ us hl => match us, hl with | [_, _], _ => rfl)
    f__law_common := gfn_of X G (all_get e1 14 rfl) (says_fun c 14 rfl) (fun _ _ _ _ _ _ us hl => match us, hl with | [_, _], _ => rfl)
    f__law_pair := gfn_of X G (all_get e1 15 rfl) (says_fun c 15 rfl) (fun _ _ _ _ _ _ us hl => match us, hl with | [_, _], _ => rfl)
    f__law_plus := gfn_of X G (all_get e1 16 rfl) (says_fun c 16 rfl) (fun _ _ _ _ _ _ us hl => match us, hl with | [_, _], _ => rfl)
    f__law_times := gfn_of X G (all_get e1 17 rfl) (says_fun c 17 rfl) (fun _ _ _ _ _ _ us hl => match us, hl with | [_, _], _ => rfl)
    f__law_over := gfn_of X G (all_get e1 18 rfl) (says_fun c 18 rfl) (fun _ _ _ _ _ _ us hl => match us, hl with | [_, _], _ => rfl)
    f__law_ratio := gfn_of X G (all_get e1 19 rfl) (says_fun c 19 rfl) (fun _ _ _ _ _ _ us hl => match us, hl with | [_], _ => rfl)
    f__law_is_beside := gfn_of X G (all_get e1 20 rfl) (says_fun c 20 rfl) (fun _ _ _ _ _ _ us hl => match us, hl with | [_, _], _ => rfl)
    f__law_are_joined := gfn_of X G (all_get e1 21 rfl) (says_fun c 21 rfl) (fun _ _ _ _ _ _ us hl => match us, hl with | [_, _, _], _ => rfl)
    f__law_is_carried := gfn_of X G (all_get e1 22 rfl) (says_fun c 22 rfl) (fun _ _ _ _ _ _ us hl => match us, hl with | [_, _, _, _], _ => rfl)
    f__law_right := gfn_of X G (all_get e1 23 rfl) (says_fun c 23 rfl) (fun _ _ _ _ _ _ us hl => match us, hl with | [_], _ => rfl)
    f_law := gfn_of X G (all_get e1 24 rfl) (says_fun c 24 rfl) (fun _ _ _ _ _ _ us hl => match us, hl with | [_], _ => rfl)
    b_list := He.free_ok X G (all_get e1 25 rfl)
    b_range := He.free_ok X G (all_get e1 26 rfl)
    b_isinstance := He.free_ok X G (all_get e1 27 rfl)
    b_int := He.free_ok X G (all_get e1 28 rfl)
    b_abs := He.free_ok X G (all_get e1 29 rfl)
    b_bool := He.free_ok X G (all_get e1 30 rfl)
    b_tuple := He.free_ok X G (all_get e1 31 rfl)
    b_len := He.free_ok X G (all_get e1 32 rfl)
    b_max := He.free_ok X G (all_get e1 33 rfl)
    b_repr := He.free_ok X G (all_get e1 34 rfl)
    b_all := He.free_ok X G (all_get e1 35 rfl)
    b_min := He.free_ok X G (all_get e1 36 rfl)
    b_gcd := bltB_ok X G (E0)
    c_Source := He.cls_ok (all_get e1 37 rfl)
    k_Source := gmk_of X G (all_get e1 38 rfl) (all_get e1 39 rfl)
    s_Source := E1
    a_Source__volts := He.noat_ok (all_get e1 40 rfl)
    a_Source__ohms := He.noat_ok (all_get e1 41 rfl)
    d_Source___init__ := gme_of (all_get e1 42 rfl) (says_fun c 25 rfl) (fun _ _ _ _ _ _ us hl => match us, hl with | [_, _, _], _ => rfl)
    p_Source_volts := gpr_of (E2) (says_fun c 26 rfl) (fun _ _ _ _ _ _ us hl => match us, hl with | [_], _ => rfl)
    p_Source_ohms := gpr_of (E3) (says_fun c 27 rfl) (fun _ _ _ _ _ _ us hl => match us, hl with | [_], _ => rfl)
    d_Source_at := gme_of (all_get e1 43 rfl) (says_fun c 28 rfl) (fun _ _ _ _ _ _ us hl => match us, hl with | [_, _], _ => rfl)
    d_Source_under := gme_of (all_get e1 44 rfl) (says_fun c 29 rfl) (fun _ _ _ _ _ _ us hl => match us, hl with | [_, _], _ => rfl)
    o_Source___add__ := gop_of (all_get e1 45 rfl) (says_fun c 30 rfl) (fun _ _ _ _ _ _ us hl => match us, hl with | [_, _], _ => rfl)
    o_Source___and__ := gop_of (all_get e1 46 rfl) (says_fun c 31 rfl) (fun _ _ _ _ _ _ us hl => match us, hl with | [_, _], _ => rfl)
    o_Source___mul__ := gop_of (all_get e1 47 rfl) (says_fun c 32 rfl) (fun _ _ _ _ _ _ us hl => match us, hl with | [_, _], _ => rfl)
    o_Source___rmul__ := gop_of (all_get e1 48 rfl) (says_fun c 33 rfl) (fun _ _ _ _ _ _ us hl => match us, hl with | [_, _], _ => rfl)
    o_Source___ge__ := gop_of (all_get e1 49 rfl) (says_fun c 34 rfl) (fun _ _ _ _ _ _ us hl => match us, hl with | [_, _], _ => rfl)
    o_Source___le__ := gop_of (all_get e1 50 rfl) (says_fun c 35 rfl) (fun _ _ _ _ _ _ us hl => match us, hl with | [_, _], _ => rfl)
    o_Source___eq__ := gop_of (all_get e1 51 rfl) (says_fun c 36 rfl) (fun _ _ _ _ _ _ us hl => match us, hl with | [_, _], _ => rfl)
    m_ONE := He.glo_ok X G (all_get e1 52 rfl)
    t_ONE := He.tupB_ok (E4)
    y_Source := insB_ok (E5)
    q_Source := mulB_ok E6
    n_Source := E7
  }
abbrev RR : PySem.W.OpenRow := PySem.W.OpenLaw.row PySem.Challenge.rw_rangehunt_k04_whole_loads_are_sources_of
def loose : List Str := (["gcd", "__name__", "is_integer", "is_ratio", "ratio", "plus", "times", "over", "at_least", "MeterError", "BadRatio", "Short", "BadMany", "ONE", "weakening", "repeated", "covers", "Source", "_law_pot", "_law_take", "_law_of", "_law_cells", "_law_common", "_law_pair", "_law_plus", "_law_times", "_law_over", "_law_ratio", "_law_is_beside", "_law_are_joined"] : List Str) ++ (["_law_is_carried", "_law_right"] : List Str)
theorem run (w : World) : HandSHeadRun.RunEqI RR (PySem.W.view RR.prog [35]) (hook 6 ex ds) (obT 6 ex ds) 6000 loose w := by
  unfold HandSHeadRun.RunEqI
  kernel_rfl
theorem law_fd {K : PySem.W.Frag} {mg : Str → Option Value} (T : Tx K mg) : ∀ (s : Shared) (v : Value), BindsTo s (fdOf K (He.ga K "law")) ⟨[v], []⟩ [("_law_script", v)] := by
  obtain ⟨oc, od, kV, doc, pm, an, cdv, ct, osl, e, hl, hc⟩ := T.f_law.f.ex
  have F : FunD K "law" "law" (defArgs s_law) (defBody s_law) (defScope s_law) [] [] (He.ga K "law") (fdOf K (He.ga K "law")) := ⟨⟨oc, od, .none, kV, doc, pm, an, cdv, ct, osl, e, hl, hc, .inl ⟨rfl, rfl⟩, .inl rfl⟩, T.f_law.f.kp⟩
  have b := FunD.bindsA (ps := ["_law_script"]) F fun _ _ _ _ _ _ us hl => match us, hl with | [_], _ => rfl
  exact fun s v => b s [v] rfl
end Lw
open PySem PySem.W PySem.Calls PyProof.Rows
theorem PySem.Challenge.cw_rangehunt_k04_whole_loads_are_sources_of_holds : PySem.Challenge.rw_rangehunt_k04_whole_loads_are_sources_of.Holds := by
  w_on; o_law
  refine HandSHeadRun.head_imp (r := OpenLaw.row PySem.Challenge.rw_rangehunt_k04_whole_loads_are_sources_of) (q := view (OpenLaw.row PySem.Challenge.rw_rangehunt_k04_whole_loads_are_sources_of).prog [35]) (H := My.hook 6 Lw.ex Lw.ds) (ob := My.obT 6 Lw.ex Lw.ds) (M := 6000) (loose := Lw.loose) (d := HandSHeadRun.topDef (OpenLaw.row PySem.Challenge.rw_rangehunt_k04_whole_loads_are_sources_of).prog 35) (kwd := []) My.obT_eq
    Lw.run (by kernel_rfl) (by kernel_rfl) (by kernel_rfl) (by rfl) (by first | assumption | decide +kernel) (by decide +kernel) ⟨rfl, rfl, rfl, rfl, rfl, by decide +kernel⟩ ?hw ?hc
  case hw => w_witness2
  case hc =>
    refine My.walk_ofG (l := PySem.Challenge.rw_rangehunt_k04_whole_loads_are_sources_of) (n := 63) (k := 9) (x := "_law_script") rfl (by decide) (by kernel_rfl) ⟨rfl, by decide, by decide⟩ ?F
    intro w mg fa h Y G hmg0
    obtain ⟨K, KX, c⟩ := Y
    have T := Lw.tx KX G c
    have hmg : mg ("law" : PySem.Str) = some (.ref fa) := by
      have e : (HandSHeadRun.topDef (OpenLaw.row PySem.Challenge.rw_rangehunt_k04_whole_loads_are_sources_of).prog 35).name = ("law" : PySem.Str) := by kernel_rfl
      rw [← e]
      exact hmg0
    have e := hmg.symm.trans T.f_law.m
    cases e
    exact ⟨K, _, My.spLaw K, KX, Lw.law_fd T, fun H a ns hn _ hS => ⟨a, ns, rfl, hS, hn, fun _ => rfl⟩, fun base _ _ => Lw.ok_law T⟩

