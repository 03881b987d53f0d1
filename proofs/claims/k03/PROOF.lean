import PyProof.Rows.All
import Wide.All
import OpenK.AllK
import Wide.FinOn
import HandS.ForMost
import HandS.Exc
import HandS.TryOnly
import HandS.WordsExc
import HandS.Wide
import HandS.Gcd
import HandS.Property
import HandS.Conv
import HandS.HeadHook1
import HandS.HeadHook4
import HandS.HeadWalk
import HandS.HeadEnd
import HandS.Head2
import HandS.IsInst
import HandS.NoneIn
import HandS.Style
import HandS.Head3
import PySem.Challenge.RW_rangehunt_k03_whole_sources_beside_all_l
set_option Elab.async false
set_option linter.all false
set_option maxRecDepth 100000
set_option maxHeartbeats 0
/-! own layer, 1: one step at a time through a reading -/
namespace My
open PySem PySem.Spec PyProof.Rows L2
/-- a new tuple, a new list -/
def NewT (xs : List V) (H : Hp) (Q : VK) : Prop := xs.length ≤ sizeLine ∧ ∀ p, H p = none → Q (.ref p) (upd H p (.tup xs))
def NewL (xs : List V) (H : Hp) (Q : VK) : Prop := xs.length ≤ sizeLine ∧ ∀ p, H p = none → Q (.ref p) (upd H p (.lst xs))
section
variable {K : PySem.W.Frag} {σ : L2.St} {H H' : Hp} {ta tb tc te : TE} {t u : TS} {tt : TT} {D : Ends} {x y z v : V} {Q : VK} {QA : List V → Hp → Prop} {QB : Bool → Hp → Prop} {R : L2.St → Hp → Prop} {i : Nat}
theorem i_go {σ' : L2.St} (e : σ = σ') (h : t D σ' H) : t D σ H := e ▸ h
/-! ### statements -/
theorem i_seq (h : t { D with nx := u D } σ H) : tSeq t u D σ H := h
theorem i_next (h : D.nx σ H) : tNext D σ H := h
theorem i_asg {g : TG} (h : te σ H fun x H1 => g x σ H1 D.nx) : tAsg te g D σ H := h
theorem i_ret (h : te σ H D.rt) : tRet te D σ H := h
theorem i_retN (h : D.rt .non H) : tRetN D σ H := h
theorem i_drop (h : te σ H fun _ H1 => D.nx σ H1) : tDrop te D σ H := h
theorem i_if (h : tt σ H fun b H1 => if b = true then t D σ H1 else u D σ H1) : tIfS tt t u D σ H := h
theorem i_gname (h : R (σ.set i (some v)) H) : gName i v σ H R := h
theorem i_par {ta : TA} {j : Nat} (h : ta σ H fun vs H1 => ∃ v w, vs = [v, w] ∧ D.nx ((σ.set i (some v)).set j (some w)) H1) : tPar i j ta D σ H := h
/-! ### expressions -/
theorem i_var (e : σ[i]? = some (some v)) (h : Q v H) : tVar i σ H Q := ⟨v, e, h⟩
theorem i_c (h : Q v H) : tC v σ H Q := h
theorem i_op {r : R2} (h : ta σ H fun x H1 => tb σ H1 fun y H2 => r x y H2 Q) : tOp r ta tb σ H Q := h
theorem i_un {r : V → Hp → VK → Prop} (h : ta σ H fun x H1 => r x H1 Q) : tUn r ta σ H Q := h
theorem i_I0 {g : Int → Int → V} {a b : Int} (h : Q (g a b) H) : rI0 g (.int a) (.int b) H Q := ⟨a, b, rfl, rfl, h⟩
theorem i_I {C : Int → Int → Prop} {g : Int → Int → V} {a b : Int} (c : C a b) (h : Q (g a b) H) : rI C g (.int a) (.int b) H Q := ⟨a, b, rfl, rfl, c, h⟩
theorem i_U {g : Int → V} {a : Int} (h : Q (g a) H) : rU g (.int a) H Q := ⟨a, rfl, h⟩
theorem i_call {sp : Sp} {dvs : List V} {E : XK} {ta : TA} (h : ta σ H fun vs H1 => sp (vs ++ dvs) H1 Q E) : tCall sp dvs E ta σ H Q := h
theorem i_cb {r : List V → Hp → VK → Prop} {ta : TA} (h : ta σ H fun vs H1 => r vs H1 Q) : tCB r ta σ H Q := h
theorem i_nil (h : QA [] H) : tNil σ H QA := h
theorem i_cons {tr : TA} (h : te σ H fun x H1 => tr σ H1 fun xs H2 => QA (x :: xs) H2) : tCons te tr σ H QA := h
theorem i_tup {ta : TA} (h : ta σ H fun xs H1 => NewT xs H1 Q) : tTup ta σ H Q := h
theorem i_lst {ta : TA} (h : ta σ H fun xs H1 => NewL xs H1 Q) : tLst ta σ H Q := h
theorem i_ife (h : tt σ H fun c H1 => if c = true then ta σ H1 Q else tb σ H1 Q) : tIf tt ta tb σ H Q := h
theorem i_test (h : te σ H fun x H' => ∃ k, x = .bl k ∧ QB k H') : tTest te σ H QB := h
theorem i_tB (h : te σ H fun x H' => ∃ k, x = .bl k ∧ QB k H') : tB te σ H QB := h
theorem i_bl {k : Bool} (h : QB k H) : ∃ k', V.bl k = .bl k' ∧ QB k' H := ⟨k, rfl, h⟩
theorem i_not (h : tt σ H fun c H1 => QB (!c) H1) : tNot tt σ H QB := h
theorem i_and {tu : TT} (h : tt σ H fun c H1 => if c = true then tu σ H1 QB else QB false H1) : tAnd tt tu σ H QB := h
theorem i_or {tu : TT} (h : tt σ H fun c H1 => if c = true then QB true H1 else tu σ H1 QB) : tOr tt tu σ H QB := h
theorem i_andV (h : ta σ H fun x H1 => ∃ c, x = .bl c ∧ if c = true then tb σ H1 Q else Q (.bl false) H1) : tAndV ta tb σ H Q := h
theorem i_orV (h : ta σ H fun x H1 => ∃ c, x = .bl c ∧ if c = true then Q (.bl true) H1 else tb σ H1 Q) : tOrV ta tb σ H Q := h
theorem i_notV (h : ta σ H fun x H1 => ∃ c, x = .bl c ∧ Q (.bl (!c)) H1) : tNotV ta σ H Q := h
theorem i_blv {k : Bool} {P : Bool → Prop} (h : P k) : ∃ c, V.bl k = .bl c ∧ P c := ⟨k, rfl, h⟩
theorem i_fld {a C dx : Addr} {fs : List (Str × V)} {f : Str} (h : ta σ H fun x H1 => ∃ a C dx fs v, x = .ref a ∧ H1 a = some (.ins C dx fs) ∧ Cls K C ∧ NoAttr K C f ∧ fs.lookup f = some v ∧ Q v H1) : tFld K ta f σ H Q := h
theorem i_two {P : V → V → Prop} (h : P x y) : ∃ v w, [x, y] = [v, w] ∧ P v w := ⟨x, y, rfl, h⟩
/-- ints by the one-argument conversions -/
theorem i_ixL {p : Addr} {xs : List V} {n : Int} (hl : SqL K H p xs) (ha : atI xs n = some v) (h : Q v H) : rIxL K (.ref p) (.int n) H Q := ⟨p, xs, n, v, rfl, rfl, hl, ha, h⟩
theorem i_ixT {p : Addr} {xs : List V} {n : Int} (hl : SqT K H p xs) (ha : atI xs n = some v) (h : Q v H) : rIxT K (.ref p) (.int n) H Q := ⟨p, xs, n, v, rfl, rfl, hl, ha, h⟩
end
/-! ### built-in calls by name -/
section
variable {X : Cx}
def rInt1 : List V → Hp → VK → Prop := fun xs H Q => (∃ i, xs = [.int i] ∧ Q (.int i) H) ∨ ∃ k, xs = [.bl k] ∧ Q (.int (if k then 1 else 0)) H
theorem cr_int1 : CallR X (.type "int") rInt1 := call_int1
def rAbs : List V → Hp → VK → Prop := fun xs H Q => ∃ i, xs = [.int i] ∧ Q (.int (if i < 0 then -i else i)) H
theorem cr_abs : CallR X (.builtin "abs") rAbs := call_abs
def rMax2 : List V → Hp → VK → Prop := fun xs H Q => ∃ i j, xs = [.int i, .int j] ∧ Q (.int (if j > i then j else i)) H
theorem cr_max2 (hc : X.calm = true) : CallR X (.builtin "max") rMax2 := call_max2 hc
def rMin2 : List V → Hp → VK → Prop := fun xs H Q => ∃ i j, xs = [.int i, .int j] ∧ Q (.int (if j < i then j else i)) H
theorem cr_min2 (hc : X.calm = true) : CallR X (.builtin "min") rMin2 := call_min2 hc
def rLenA (K : PySem.W.Frag) : List V → Hp → VK → Prop := fun xs H Q => ∃ x n, xs = [x] ∧ LenV K x H n ∧ Q (.int n) H
theorem cr_len : CallR X (.builtin "len") (rLenA X.K) := call_len
def rListOf (K : PySem.W.Frag) : List V → Hp → VK → Prop := fun xs H Q => ∃ p ys, xs = [.ref p] ∧ (SqL K H p ys ∨ SqT K H p ys) ∧ ∀ l, H l = none → Q (.ref l) (upd H l (.lst ys))
theorem cr_listOf : CallR X (.type "list") (rListOf X.K) := call_list_of
/-- a power of two ints -/
def CPowW (i j : Int) : Prop := 0 ≤ j ∧ (Builtin.Int.intBits i : Int) * j ≤ 2 ^ 27
theorem op_powW : OpR X (binaryOp .Pow) (rI CPowW fun i j => .int (i ^ j.toNat)) := opI fun _ _ _ _ _ _ _ hc q => pow_int hc.1 hc.2 q
end
section
variable {K : PySem.W.Frag} {H : Hp} {Q : VK} {v : V} {xs : List V}
theorem i_int1 {a : Int} (h : Q (.int a) H) : rInt1 [.int a] H Q := .inl ⟨a, rfl, h⟩
theorem i_int1b {k : Bool} (h : Q (.int (if k then 1 else 0)) H) : rInt1 [.bl k] H Q := .inr ⟨k, rfl, h⟩
theorem i_abs {a : Int} (h : Q (.int (if a < 0 then -a else a)) H) : rAbs [.int a] H Q := ⟨a, rfl, h⟩
theorem i_max2 {a b : Int} (h : Q (.int (if b > a then b else a)) H) : rMax2 [.int a, .int b] H Q := ⟨a, b, rfl, h⟩
theorem i_min2 {a b : Int} (h : Q (.int (if b < a then b else a)) H) : rMin2 [.int a, .int b] H Q := ⟨a, b, rfl, h⟩
theorem i_lenL {p : Addr} (hl : SqL K H p xs) (h : Q (.int xs.length) H) : rLenA K [.ref p] H Q := ⟨.ref p, xs.length, rfl, .inl ⟨xs, hl, rfl⟩, h⟩
theorem i_lenT {p : Addr} (hl : SqT K H p xs) (h : Q (.int xs.length) H) : rLenA K [.ref p] H Q := ⟨.ref p, xs.length, rfl, .inr ⟨xs, hl, rfl⟩, h⟩
theorem i_ixsL {p : Addr} {n : Int} (hl : SqL K H p xs) (ha : atI xs n = some v) (h : Q v H) : rIx K (.ref p) (.int n) H Q := .inl ⟨p, xs, n, v, rfl, rfl, hl, ha, h⟩
theorem i_ixsT {p : Addr} {n : Int} (hl : SqT K H p xs) (ha : atI xs n = some v) (h : Q v H) : rIx K (.ref p) (.int n) H Q := .inr (.inl ⟨p, xs, n, v, rfl, rfl, hl, ha, h⟩)
/-! ### new objects: the heap behind is a new letter -/
theorem i_new {o : HO} (h : ∀ p H1, Same H H1 → H p = none → H1 p = some o → Q (.ref p) H1) : ∀ p, H p = none → Q (.ref p) (upd H p o) := fun p hp =>
  h p _ (fun b u e => by rw [upd_ne (ne_of_none e hp)]; exact e) hp upd_same
theorem i_szT (z : xs.length ≤ sizeLine) (h : ∀ p H1, Same H H1 → H p = none → H1 p = some (.tup xs) → Q (.ref p) H1) : NewT xs H Q := ⟨z, i_new h⟩
theorem i_szL (z : xs.length ≤ sizeLine) (h : ∀ p H1, Same H H1 → H p = none → H1 p = some (.lst xs) → Q (.ref p) H1) : NewL xs H Q := ⟨z, i_new h⟩
/-! ### frames -/
theorem _root_.L2.Same.seqT {K : PySem.W.Frag} {a : Addr} {H H' : Hp} {xs : List V} (e : L2.Same H H') (h : SqT K H a xs) : SqT K H' a xs := by
  rcases h with (h | ⟨o, h⟩) | h
  · exact .inl (.inl (e _ _ h))
  · exact .inl (.inr ⟨o, e _ _ h⟩)
  · exact .inr h

/-- all but what stands at p is as it was -/
def But (p : Addr) (H H' : Hp) : Prop := ∀ b o, b ≠ p → H b = some o → H' b = some o
theorem _root_.L2.Same.but {p : Addr} {H H' : Hp} (s : L2.Same H H') : But p H H' := fun b o _ e => s b o e
theorem But.refl {p : Addr} (H : Hp) : But p H H := fun _ _ _ h => h
theorem But.trans {p : Addr} {H H1 H2 : Hp} (a : But p H H1) (b : But p H1 H2) : But p H H2 := fun c o n h => b c o n (a c o n h)
theorem But.upd {p : Addr} {H : Hp} {o : HO} : But p H (upd H p o) := fun b u n h => by rw [upd_ne n]; exact h
theorem But.seq {K : PySem.W.Frag} {p a : Addr} {H H' : Hp} {xs : List V} (e : But p H H') (n : a ≠ p) (h : SqL K H a xs) : SqL K H' a xs := by
  rcases h with (h | ⟨o, h⟩) | h
  · exact .inl (.inl (e _ _ n h))
  · exact .inl (.inr ⟨o, e _ _ n h⟩)
  · exact .inr h
theorem But.seqT {K : PySem.W.Frag} {p a : Addr} {H H' : Hp} {xs : List V} (e : But p H H') (n : a ≠ p) (h : SqT K H a xs) : SqT K H' a xs := by
  rcases h with (h | ⟨o, h⟩) | h
  · exact .inl (.inl (e _ _ n h))
  · exact .inl (.inr ⟨o, e _ _ n h⟩)
  · exact .inr h
theorem But.free {p l : Addr} {H H' : Hp} (e : But p H H') (n : l ≠ p) (h : H' l = none) : H l = none := by
  cases q : H l with
  | none => rfl
  | some o =>
    rw [e l o n q] at h
    cases h
theorem atI_mem {xs : List V} {i : Int} (h0 : 0 ≤ i) (h1 : i < (xs.length : Int)) : ∃ v, atI xs i = some v ∧ v ∈ xs := by
  obtain ⟨j, rfl⟩ : ∃ j : Nat, i = (j : Int) := ⟨i.toNat, by omega⟩
  have hj : j < xs.length := by omega
  exact ⟨xs[j], atI_nat (List.getElem?_eq_getElem hj), List.getElem_mem hj⟩
theorem i_sub {to ti : TE} {t : TSet} {σ : L2.St} {R : L2.St → Hp → Prop} (h : to σ H fun o H1 => ti σ H1 fun i H2 => t o i v H2 fun H3 => R σ H3) : gSub to ti t v σ H R := h
theorem i_setL {p : Addr} {n : Int} {j : Nat} {R : Hp → Prop} (hl : H p = some (.lst xs)) (hj : ixN xs.length n = some j) (h : ∀ H1, But p H H1 → H1 p = some (.lst (xs.set j v)) → R H1) : rSetL (.ref p) (.int n) v H R :=
  ⟨p, xs, n, j, rfl, rfl, hl, hj, h _ But.upd upd_same⟩
theorem i_bm {T : String} {r : V → List V → Hp → VK → Prop} {to : TE} {t : TA} {σ : L2.St} (h : to σ H fun x H1 => tyV K T x H1 ∧ t σ H1 fun xs H2 => r x xs H2 Q) : tBM K T r to t σ H Q := h
theorem i_bm0 {T : String} {r : V → List V → Hp → VK → Prop} {to : TE} {σ : L2.St} (h : to σ H fun x H1 => tyV K T x H1 ∧ r x [] H1 Q) : tBM0 K T r to σ H Q := h
theorem i_tyL {p : Addr} {P : Prop} (hl : SqL K H p xs) (h : P) : tyV K "list" (.ref p) H ∧ P := ⟨.inl ⟨rfl, xs, hl⟩, h⟩
theorem i_app {l : Addr} {y : V} (hl : H l = some (.lst xs)) (hz : xs.length < sizeLine) (h : ∀ H1, But l H H1 → H1 l = some (.lst (xs ++ [y])) → Q .non H1) : rAppend (.ref l) [y] H Q := ⟨l, xs, y, rfl, rfl, hl, hz, h _ But.upd upd_same⟩
def NewR (a b : Int) (H : Hp) (Q : VK) : Prop := RgOk a b ∧ ∀ q, H q = none → Q (.ref q) (upd H q (.lst (rgV a b)))
theorem i_lstRg {t : L2.St → Hp → (Int → Int → Hp → Prop) → Prop} {σ : L2.St} (h : t σ H fun a b H1 => NewR a b H1 Q) : tLstRg t σ H Q := h
theorem i_rg1 {ta : TE} {σ : L2.St} {QQ : Int → Int → Hp → Prop} (h : ta σ H fun x H1 => ∃ n, x = .int n ∧ QQ 0 n H1) : tRg1 ta σ H QQ := h
theorem i_in {n : Int} {P : Int → Prop} (h : P n) : ∃ m, V.int n = .int m ∧ P m := ⟨n, rfl, h⟩
theorem i_newR {a b : Int} (z : RgOk a b) (h : ∀ p H1, Same H H1 → H p = none → H1 p = some (.lst (rgV a b)) → Q (.ref p) H1) : NewR a b H Q := ⟨z, i_new h⟩
/-- both ways of an expression's if, joined by what is told of the value -/
theorem i_join {c : Bool} {ta tb : TE} {σ : L2.St} (Pr : V → Prop) (h1 : c = true → ∀ Q : VK, (∀ v, Pr v → Q v H) → ta σ H Q) (h2 : c = false → ∀ Q : VK, (∀ v, Pr v → Q v H) → tb σ H Q) (h : ∀ v, Pr v → Q v H) : if c = true then ta σ H Q else tb σ H Q := by
  cases c with
  | true => exact h1 rfl Q h
  | false => exact h2 rfl Q h
theorem ite_nt {A B : Prop} (h : B) : if (!true) = true then A else B := h
theorem ite_nf {A B : Prop} (h : A) : if (!false) = true then A else B := h
theorem i_gcd {a b : Int} (h : Q (.int ((Nat.gcd a.natAbs b.natAbs : Nat) : Int)) H) : rGcd [.int a, .int b] H Q := ⟨a, b, rfl, h⟩
theorem dec_intV {a b : Int} : decide (V.int a = V.int b) = decide (a = b) := by
  rw [decide_eq_decide]
  exact ⟨fun z => V.int.inj z, fun z => z ▸ rfl⟩
theorem i_eqI {a b : Int} (h : Q (.bl (decide (a = b))) H) : rEq (.int a) (.int b) H Q := ⟨rfl, by rw [dec_intV]; exact h⟩
theorem i_neI {a b : Int} (h : Q (.bl (!decide (a = b))) H) : rNe (.int a) (.int b) H Q := ⟨rfl, by rw [dec_intV]; exact h⟩
theorem i_eqT {a b : Int} (e : a = b) (h : Q (.bl true) H) : rEq (.int a) (.int b) H Q := i_eqI (by rw [decide_eq_true e]; exact h)
theorem i_eqF {a b : Int} (e : ¬ a = b) (h : Q (.bl false) H) : rEq (.int a) (.int b) H Q := i_eqI (by rw [decide_eq_false e]; exact h)
theorem i_neF {a b : Int} (e : a = b) (h : Q (.bl false) H) : rNe (.int a) (.int b) H Q := i_neI (by rw [decide_eq_true e]; exact h)
theorem i_neT {a b : Int} (e : ¬ a = b) (h : Q (.bl true) H) : rNe (.int a) (.int b) H Q := i_neI (by rw [decide_eq_false e]; exact h)
/-- a comparison of ints whose answer is known -/
theorem i_leT {a b : Int} {p : Int → Int → Bool} (e : p a b = true) (h : Q (.bl true) H) : rI0 (fun i j => V.bl (p i j)) (.int a) (.int b) H Q := ⟨a, b, rfl, rfl, by show Q (V.bl (p a b)) H; rw [e]; exact h⟩
theorem i_leF {a b : Int} {p : Int → Int → Bool} (e : p a b = false) (h : Q (.bl false) H) : rI0 (fun i j => V.bl (p i j)) (.int a) (.int b) H Q := ⟨a, b, rfl, rfl, by show Q (V.bl (p a b)) H; rw [e]; exact h⟩
theorem ite_d {c A B : Prop} [Decidable c] (hc : c) (h : A) : if decide c = true then A else B := by rw [decide_eq_true hc]; exact iteT h
theorem ite_dn {c A B : Prop} [Decidable c] (hc : ¬ c) (h : B) : if decide c = true then A else B := by rw [decide_eq_false hc]; exact iteF h
theorem ite_nd {c A B : Prop} [Decidable c] (hc : c) (h : B) : if (!decide c) = true then A else B := by rw [decide_eq_true hc]; exact iteF h
theorem ite_ndn {c A B : Prop} [Decidable c] (hc : ¬ c) (h : A) : if (!decide c) = true then A else B := by rw [decide_eq_false hc]; exact iteT h
theorem ite_b {b : Bool} {A B : Prop} (h1 : b = true → A) (h2 : b = false → B) : if b = true then A else B := by
  cases b with
  | true => exact h1 rfl
  | false => exact h2 rfl
theorem ite_nb {b : Bool} {A B : Prop} (h1 : b = false → A) (h2 : b = true → B) : if (!b) = true then A else B := by
  cases b with
  | true => exact h2 rfl
  | false => exact h1 rfl
end
end My

/-! own layer, 2: where defs, methods, properties, operators stand; their calls -/
namespace My
open PySem PySem.Spec PyProof.Rows L2
def fdOf (K : PySem.W.Frag) (a : Addr) : FuncData := match K.lookup a with
  | some ⟨_, _, .func fd, _⟩ => fd
  | _ => ⟨"", "", ⟨[], [], none, [], [], none, []⟩, .stmts [], ⟨.function, [], false, false, []⟩, 0, [], .none, .none, .none, .none, none, .none, .none, 0⟩
/-- the getter of the property at p -/
def gtOf (K : PySem.W.Frag) (p : Addr) : Addr := match PySem.W.recIn K p "property" with
  | some (.ref g :: _) => g
  | _ => 0
/-- a module's def -/
structure GFn (K : PySem.W.Frag) (mg : Str → Option Value) (x : Str) (st : Stmt) (ps : List Str) : Prop where
  m : mg x = some (.ref (He.ga K x))
  f : Fun K x x st (He.ga K x) (fdOf K (He.ga K x))
  b : L2.Binds K (fdOf K (He.ga K x)) ps []
/-- a method of the class at C -/
structure GMe (K : PySem.W.Frag) (C : Addr) (m qual : Str) (st : Stmt) (ps : List Str) : Prop where
  h : Meth K C m (He.ma K C m)
  f : Fun K m qual st (He.ma K C m) (fdOf K (He.ma K C m))
  b : L2.Binds K (fdOf K (He.ma K C m)) ps []
/-- a property -/
structure GPr (K : PySem.W.Frag) (C : Addr) (m qual : Str) (st : Stmt) : Prop where
  p : PropOf K C m (He.ma K C m) (gtOf K (He.ma K C m))
  f : Fun K m qual st (gtOf K (He.ma K C m)) (fdOf K (gtOf K (He.ma K C m)))
  b : L2.Binds K (fdOf K (gtOf K (He.ma K C m))) ["self"] []
/-- a class that is made -/
structure GMk (K : PySem.W.Frag) (mg : Str → Option Value) (x : Str) : Prop where
  m : mg x = some (.ref (He.ga K x))
  k : Mk K (He.ga K x) (He.ma K (He.ga K x) "__init__")
abbrev FnAt (P : Program) (w : World) (K : PySem.W.Frag) (mg : Str → Option Value) (base : Heap) (CX : CXT) (k : Nat) (a : Addr) (ps : List Str) (sp : Sp) : Prop := FnOk P w K mg base CX k a (fdOf K a) ps sp
section
variable {X : Cx} {CX : CXT} {k : Nat} {x m qual : Str} {st : Stmt} {ps : List Str} {sp : Sp} {p pos apos : Pos} {e o : Expr} {es : List Expr} {t : TA} {ta : TE} {C : Addr}
theorem pe_fn (g : GFn X.K X.mg x st ps) (F : FnAt X.prog X.w X.K X.mg X.base CX k (He.ga X.K x) ps sp) (hr : Room k X.A) (ha : PA X (e :: es) t) (hx : Passes CX X E0 := by first | exact pass0 | exact passL) (hg : Gl X x := by rfl)
    (hdb : (x == ("__debug__" : Str)) = false := by decide) (he : starEach (e :: es) X.env = (false, eval e X.env) :: starEach es X.env := by rfl) (hpl : (backTo pos (starEach es X.env)).any (·.1) = false := by rfl) :
    PE X (.Call (.Name x p) (e :: es) [] pos) (tCall sp [] E0 t) := pe_call F hr hg g.m g.f.kp g.b .nil hx ha hdb he hpl
theorem pe_fnX {E : XK} (g : GFn X.K X.mg x st ps) (F : FnAt X.prog X.w X.K X.mg X.base CX k (He.ga X.K x) ps sp) (hr : Room k X.A) (hx : Passes CX X E) (ha : PA X (e :: es) t) (hg : Gl X x := by rfl)
    (hdb : (x == ("__debug__" : Str)) = false := by decide) (he : starEach (e :: es) X.env = (false, eval e X.env) :: starEach es X.env := by rfl) (hpl : (backTo pos (starEach es X.env)).any (·.1) = false := by rfl) :
    PE X (.Call (.Name x p) (e :: es) [] pos) (tCall sp [] E t) := pe_call F hr hg g.m g.f.kp g.b .nil hx ha hdb he hpl
theorem pe_me {pl : Sem Bool} (c : Cls X.K C) (g : GMe X.K C m qual st ps) (F : FnAt X.prog X.w X.K X.mg X.base CX k (He.ma X.K C m) ps sp) (hr : Room k X.A) (ho : PE X o ta) (ha : PA X (e :: es) t) (hx : Passes CX X E0 := by first | exact pass0 | exact passL)
    (hst : starEach (e :: es) X.env = (false, eval e X.env) :: starEach es X.env := by rfl) (hpl : (backTo pos (starEach es X.env)).any (·.1) = false := by rfl)
    (ht : eval (.Call (.Attribute o m apos) (e :: es) [] pos) X.env = (do
      let ov ← eval o X.env
      standAt apos.atName
      let (f, first) ← holding [ov] (getMethod ov m pl)
      callWith pos f first (backTo pos (starEach (e :: es) X.env)) (backToKw pos (keywordEach [] X.env))) := by rfl) :
    PE X (.Call (.Attribute o m apos) (e :: es) [] pos) (tMeth C m sp [] E0 ta t) := pe_meth ho c g.h F hr g.b .nil hx ha hst hpl ht
theorem pe_me0 {pl : Sem Bool} (c : Cls X.K C) (g : GMe X.K C m qual st ps) (F : FnAt X.prog X.w X.K X.mg X.base CX k (He.ma X.K C m) ps sp) (hr : Room k X.A) (ho : PE X o ta) (hx : Passes CX X E0 := by first | exact pass0 | exact passL)
    (ht : eval (.Call (.Attribute o m apos) [] [] pos) X.env = (do
      let ov ← eval o X.env
      standAt apos.atName
      let (f, first) ← holding [ov] (getMethod ov m pl)
      callWith pos f first (backTo pos (starEach [] X.env)) (backToKw pos (keywordEach [] X.env))) := by rfl) :
    PE X (.Call (.Attribute o m apos) [] [] pos) (tMeth C m sp [] E0 ta tNil) := pe_meth0 ho c g.h F hr g.b .nil hx ht
theorem pe_pr (c : Cls X.K C) (g : GPr X.K C m qual st) (F : FnAt X.prog X.w X.K X.mg X.base CX k (gtOf X.K (He.ma X.K C m)) ["self"] sp) (hr : Room (k + 1) X.A) (ho : PE X o ta) (hx : Passes CX X.nox E0 := by first | exact pass0 | exact passL)
    (hab : attributeBase o m X.env (eval o X.env) = eval o X.env := by rfl) : PE X (.Attribute o m pos) (tProp C sp [] E0 ta) := pe_prop ho c g.p F hr g.b .nil hx hab
theorem pe_mk (g : GMk X.K X.mg x) {fm : GMe X.K (He.ga X.K x) "__init__" qual st ps} (F : FnAt X.prog X.w X.K X.mg X.base CX k (He.ma X.K (He.ga X.K x) "__init__") ps sp) (hr : Room (k + 1) X.A) (ha : PA X (e :: es) t) (hx : Passes CX X E0 := by first | exact pass0 | exact passL) (hg : Gl X x := by rfl)
    (hdb : (x == ("__debug__" : Str)) = false := by decide) (he : starEach (e :: es) X.env = (false, eval e X.env) :: starEach es X.env := by rfl) (hpl : (backTo pos (starEach es X.env)).any (·.1) = false := by rfl) :
    PE X (.Call (.Name x p) (e :: es) [] pos) (tMake (He.ga X.K x) sp [] E0 t) := pe_make g.k F hr hg g.m fm.b .nil hx ha hdb he hpl
theorem pe_mkK {K : PySem.W.Frag} (hK : X.K = K) (g : GMk K X.mg x) {fm : GMe K (He.ga K x) "__init__" qual st ps} (F : FnAt X.prog X.w K X.mg X.base CX k (He.ma K (He.ga K x) "__init__") ps sp) (hr : Room (k + 1) X.A) (ha : PA X (e :: es) t) (hx : Passes CX X E0 := by first | exact pass0 | exact passL) (hg : Gl X x := by rfl)
    (hdb : (x == ("__debug__" : Str)) = false := by decide) (he : starEach (e :: es) X.env = (false, eval e X.env) :: starEach es X.env := by rfl) (hpl : (backTo pos (starEach es X.env)).any (·.1) = false := by rfl) :
    PE X (.Call (.Name x p) (e :: es) [] pos) (tMake (He.ga K x) sp [] E0 t) := by
  subst hK
  exact pe_mk g (fm := fm) F hr ha hx hg hdb he hpl
/-- what an own operator asks of the class -/
structure GOp (K : PySem.W.Frag) (C : Addr) (m qual : Str) (st : Stmt) : Prop where
  at_ : PySem.W.findIn K (.ref C) m = some (some (.ref (He.ma K C m)))
  fn : PySem.W.isFn K (.ref (He.ma K C m)) = true
  f : Fun K m qual st (He.ma K C m) (fdOf K (He.ma K C m))
  b : L2.Binds K (fdOf K (He.ma K C m)) ["self", "other"] []
/-- x op y of two instances of one class: the method's promise -/
def rOwn (C : Addr) (sp : Sp) : R2 := fun x y H Q => ∃ a b dx dy fs gs, x = .ref a ∧ y = .ref b ∧ H a = some (.ins C dx fs) ∧ H b = some (.ins C dy gs) ∧ sp [x, y] H Q E0
theorem back_of {pins : List (Addr × Obj)} {σ : L2.St} {Q : VK} {u : Value} {s : Shared} (h : EP X pins σ Q u s) : PySem.W.CmpBack (EP X pins σ Q) u s := by
  obtain ⟨v, H', I, r, q⟩ := h
  cases u with
  | notImplemented =>
    exfalso
    cases v with
    | non => cases r
    | bl _ => cases r
    | int _ => obtain ⟨t, z⟩ := r; cases z
    | str _ => obtain ⟨t, z⟩ := r; cases z
    | byt _ => obtain ⟨t, z⟩ := r; cases z
    | flt _ => obtain ⟨t, z⟩ := r; cases z
    | ref _ => cases r
    | ty _ => cases r
  | _ => exact ⟨v, H', I, r, q⟩
theorem op_own {op : Operator} (g : GOp X.K C m qual st) (hm : PySem.dunder op.info.2 = m) (F : FnAt X.prog X.w X.K X.mg X.base CX k (He.ma X.K C m) ["self", "other"] sp) (hr : Room k X.A) (hc : PySem.W.selfFirst X.K C = true)
    (hx : Passes CX X E0 := by first | exact pass0 | exact passL) : OpR X (binaryOp op) (rOwn C sp) := by
  intro pins s σ H x y v u Q I rx ry h
  obtain ⟨a, b, dx, dy, fs, gs, rfl, rfl, ha, hb, hsp⟩ := h
  cases rx
  cases ry
  obtain ⟨mA, J, _⟩ := ins_get I.hok ha
  obtain ⟨mB, J', _⟩ := ins_get I.hok hb
  obtain ⟨od, J, _⟩ := J.look
  obtain ⟨od', J', _⟩ := J'.look
  obtain ⟨mm, hF⟩ := I.fr
  subst hm
  refine PySem.W.binop_K hF I.ok.mod.kin J J'.type hc g.at_ g.fn ?_
  exact thn (run_fn (vs := [.ref a, .ref b]) F hr g.b .nil hx I (.cons rfl (.cons rfl .nil)) hsp) fun r s' q => back_of q
theorem cm_own {op : CmpOp} (g : GOp X.K C m qual st) (hm : (PySem.cmpInfo op).2.1 = m) (hop : ∀ v u, compareOp op v u = richCompare op v u) (F : FnAt X.prog X.w X.K X.mg X.base CX k (He.ma X.K C m) ["self", "other"] sp) (hr : Room k X.A)
    (hx : Passes CX X E0 := by first | exact pass0 | exact passL) : OpR X (compareOp op) (rOwn C sp) := by
  intro pins s σ H x y v u Q I rx ry h
  obtain ⟨a, b, dx, dy, fs, gs, rfl, rfl, ha, hb, hsp⟩ := h
  cases rx
  cases ry
  obtain ⟨mA, J, _⟩ := ins_get I.hok ha
  obtain ⟨mB, J', _⟩ := ins_get I.hok hb
  obtain ⟨od, J, _⟩ := J.look
  obtain ⟨od', J', _⟩ := J'.look
  obtain ⟨mm, hF⟩ := I.fr
  subst hm
  rw [hop]
  refine PySem.W.cmp_K (tb := .ref C) hr.units0 hF I.ok.mod.kin J J'.type (by simp [PySem.W.notFirst]) g.at_ g.fn ?_
  exact thn (run_fn (vs := [.ref a, .ref b]) F hr g.b .nil hx I (.cons rfl (.cons rfl .nil)) hsp) fun r s' q => back_of q
end
end My

/-! own layer: sizes -/
namespace My
open PySem PySem.Spec PyProof.Rows L2
theorem log_lt {n k : Nat} (hk : 0 < k) (h : n < 2 ^ k) : n.log2 < k := PySem.Flt.log2_lt_of hk h
theorem mulS {i j : Int} (h1 : -1000000000000000000000000000000 < i) (h2 : i < 1000000000000000000000000000000) (h3 : -1000000000000000000000000000000 < j) (h4 : j < 1000000000000000000000000000000) : CMulW i j :=
  wide_mul (a := 100) (b := 100) (Nat.lt_of_lt_of_le (m := 1000000000000000000000000000000) (by omega) (by decide +kernel)) (Nat.lt_of_lt_of_le (m := 1000000000000000000000000000000) (by omega) (by decide +kernel)) (by decide) (by decide) (by decide)
theorem divS {i j : Int} (h3 : 0 < j) (h4 : j < 1000000000000000000000000000000) : CDivW i j :=
  wide_div (b := 100) h3 (Nat.lt_of_lt_of_le (m := 1000000000000000000000000000000) (by omega) (by decide +kernel)) (by decide) (by decide)
theorem bits_le (x : Int) : Builtin.Int.intBits x ≤ x.natAbs.log2 + 1 := by
  unfold Builtin.Int.intBits
  split <;> omega
theorem pow3S {i : Int} (h1 : -1000000000000000000000000000000 < i) (h2 : i < 1000000000000000000000000000000) : CPowW i 3 := by
  have h : i.natAbs.log2 < 100 := log_lt (by decide) (Nat.lt_of_lt_of_le (m := 1000000000000000000000000000000) (by omega) (by decide +kernel))
  have b := bits_le i
  refine ⟨by decide, ?_⟩
  have e : (2 : Int) ^ 27 = 134217728 := by decide
  rw [e]
  omega
theorem powL {i j : Int} (h : decide (0 ≤ j ∧ (Builtin.Int.intBits i : Int) * j ≤ 134217728) = true) : CPowW i j := by
  have h := of_decide_eq_true h
  exact ⟨h.1, h.2⟩
/-- k * c * c + d of a draw's number -/
theorem pow3Q {b k c d : Int} (hb : 0 ≤ b) (hb2 : b < 2305843009213693952) (hk : 0 ≤ k) (hk2 : k ≤ 1000000) (hc : 0 ≤ c) (hc2 : c ≤ 1000001) (hd : 0 ≤ d) (hd2 : d ≤ 1000000) : CPowW (b + k * c * c + d) 3 := by
  have h1 : 0 ≤ k * c := Int.mul_nonneg hk hc
  have h2 : k * c ≤ 1000000 * 1000001 := Int.mul_le_mul hk2 hc2 hc (by decide)
  have h3 : 0 ≤ k * c * c := Int.mul_nonneg h1 hc
  have h4 : k * c * c ≤ 1000000 * 1000001 * 1000001 := Int.mul_le_mul h2 hc2 hc (by decide)
  exact pow3S (by omega) (by omega)
section
variable {H : Hp} {Q : VK}
/-- a remainder, told by its bounds alone -/
theorem i_modQ {a j : Int} (hj : 0 < j) (h : ∀ m : Int, 0 ≤ m → m < j → Q (.int m) H) : rI (fun _ j => 0 < j) (fun i j => V.int (i % j)) (.int a) (.int j) H Q :=
  ⟨a, j, rfl, rfl, hj, h _ (Int.emod_nonneg _ (by omega)) (Int.emod_lt_of_pos _ hj)⟩
end
theorem pot_lt {m : Int} (h0 : 0 ≤ m) (h : m < (10 ^ Int.toNat 60) ^ Int.toNat 5) : m.natAbs < 2 ^ 1000 := by
  have e : ((10 : Int) ^ Int.toNat 60) ^ Int.toNat 5 < ((2 ^ 1000 : Nat) : Int) := by decide +kernel
  have h2 : m < ((2 ^ 1000 : Nat) : Int) := Int.lt_trans h e
  generalize 2 ^ 1000 = z at h2 ⊢
  omega
theorem mul01 {m : Int} {k : Bool} (h : m.natAbs < 2 ^ 1000) : CMulW m (if k = true then 1 else 0) := wide_mul (a := 1000) (b := 1) h (by cases k <;> decide) (by decide) (by decide) (by decide)
theorem mul01_nn {m : Int} {k : Bool} (h : 0 ≤ m) : 0 ≤ m * (if k = true then 1 else 0) := by cases k <;> simp [h]
/-! ### ratios are rationals -/
theorem rat_nd (a : Int) (b : Nat) (hb : 0 < b) : ((a : Rat) / (b : Rat)).num = a / ((Nat.gcd a.natAbs b : Nat) : Int) ∧ ((a : Rat) / (b : Rat)).den = b / Nat.gcd a.natAbs b := by
  have h : (a : Rat) / (b : Rat) = mkRat a b := (Rat.mkRat_eq_div a b).symm
  rw [h]
  have hz : b ≠ 0 := by omega
  unfold mkRat
  rw [dif_neg hz, Rat.normalize_eq hz]
  exact ⟨rfl, rfl⟩
theorem rat_ndI (a b : Int) (hb : 0 < b) : ((a : Rat) / (b : Rat)).num = a / ((Nat.gcd a.natAbs b.natAbs : Nat) : Int) ∧ (((a : Rat) / (b : Rat)).den : Int) = b / ((Nat.gcd a.natAbs b.natAbs : Nat) : Int) := by
  obtain ⟨n, rfl⟩ : ∃ n : Nat, b = (n : Int) := ⟨b.toNat, by omega⟩
  have h := rat_nd a n (by omega)
  have e : ((n : Int) : Rat) = (n : Rat) := by norm_cast
  rw [e, h.1, h.2]
  simp
/-- a ratio's pair -/
abbrev rat (q : Rat) : List V := [.int q.num, .int (q.den : Int)]
theorem rat_div {a b : Int} (hb : 0 < b) : ([V.int (a / ((Nat.gcd a.natAbs b.natAbs : Nat) : Int)), V.int (b / ((Nat.gcd a.natAbs b.natAbs : Nat) : Int))] : List V) = rat ((a : Rat) / (b : Rat)) := by
  obtain ⟨h1, h2⟩ := rat_ndI a b hb
  unfold rat
  rw [h1, h2]
theorem gcd_div {a b : Int} (hb : 0 < b) (sb : b.natAbs < 2 ^ 4000) : CDivW a ((Nat.gcd a.natAbs b.natAbs : Nat) : Int) ∧ CDivW b ((Nat.gcd a.natAbs b.natAbs : Nat) : Int) := by
  have h1 : 0 < Nat.gcd a.natAbs b.natAbs := Nat.gcd_pos_of_pos_right _ (by omega)
  have h2 : Nat.gcd a.natAbs b.natAbs ≤ b.natAbs := Nat.le_of_dvd (by omega) (Nat.gcd_dvd_right _ _)
  have h3 : ((Nat.gcd a.natAbs b.natAbs : Nat) : Int).natAbs < 2 ^ 4000 := by rw [Int.natAbs_natCast]; exact Nat.lt_of_le_of_lt h2 sb
  exact ⟨wide_div (b := 4000) (by omega) h3 (by decide) (by decide), wide_div (b := 4000) (by omega) h3 (by decide) (by decide)⟩
end My

/-! own layer: ratios as rationals, core Lean alone -/
namespace My
/-- both parts below 2 ^ k -/
def Sz (k : Nat) (q : Rat) : Prop := q.num.natAbs < 2 ^ k ∧ q.den < 2 ^ k
theorem Sz.mono {j k : Nat} {q : Rat} (h : Sz j q) (hk : j ≤ k) : Sz k q := ⟨Nat.lt_of_lt_of_le h.1 (Nat.pow_le_pow_right (by decide) hk), Nat.lt_of_lt_of_le h.2 (Nat.pow_le_pow_right (by decide) hk)⟩
theorem sz_div {a : Int} {b k : Nat} (hb : 0 < b) (h1 : a.natAbs < 2 ^ k) (h2 : b < 2 ^ k) : Sz k ((a : Rat) / (b : Rat)) := by
  obtain ⟨e1, e2⟩ := rat_nd a b hb
  refine ⟨?_, ?_⟩
  · rw [e1, Int.natAbs_ediv_of_dvd (Int.ofNat_dvd_left.mpr (Nat.gcd_dvd_left _ _)), Int.natAbs_natCast]
    exact Nat.lt_of_le_of_lt (Nat.div_le_self _ _) h1
  · rw [e2]
    exact Nat.lt_of_le_of_lt (Nat.div_le_self _ _) h2
theorem sz_divI {a b : Int} {k : Nat} (hb : 0 < b) (h1 : a.natAbs < 2 ^ k) (h2 : b.natAbs < 2 ^ k) : Sz k ((a : Rat) / (b : Rat)) := by
  obtain ⟨n, rfl⟩ : ∃ n : Nat, b = (n : Int) := ⟨b.toNat, by omega⟩
  have e : ((n : Int) : Rat) = (n : Rat) := by norm_cast
  rw [e]
  exact sz_div (by omega) h1 (by simpa using h2)
theorem den_ne (p : Rat) : ((p.den : Nat) : Rat) ≠ 0 := fun z => p.den_nz (by exact_mod_cast z)
theorem den_pos (p : Rat) : 0 < p.den := Nat.pos_of_ne_zero p.den_nz
theorem num_den (p : Rat) : (p.num : Rat) / ((p.den : Nat) : Rat) = p := by
  have h := Rat.num_divInt_den p
  rw [Rat.divInt_eq_div] at h
  have e : (((p.den : Nat) : Int) : Rat) = ((p.den : Nat) : Rat) := by norm_cast
  rw [e] at h
  exact h
theorem add_div (p q : Rat) : ((p.num * (q.den : Int) + q.num * (p.den : Int) : Int) : Rat) / (((p.den : Int) * (q.den : Int) : Int) : Rat) = p + q := by
  have h1 := num_den p
  have h2 := num_den q
  have d1 := den_ne p
  have d2 := den_ne q
  have e3 : ((p.num * (q.den : Int) + q.num * (p.den : Int) : Int) : Rat) = (p.num : Rat) * (q.den : Rat) + (q.num : Rat) * (p.den : Rat) := by push_cast; rfl
  have e4 : (((p.den : Int) * (q.den : Int) : Int) : Rat) = (p.den : Rat) * (q.den : Rat) := by push_cast; rfl
  rw [e3, e4]
  grind
theorem mul_div (p q : Rat) : ((p.num * q.num : Int) : Rat) / (((p.den : Int) * (q.den : Int) : Int) : Rat) = p * q := by
  have h1 := num_den p
  have h2 := num_den q
  have d1 := den_ne p
  have d2 := den_ne q
  have e3 : ((p.num * q.num : Int) : Rat) = (p.num : Rat) * (q.num : Rat) := by push_cast; rfl
  have e4 : (((p.den : Int) * (q.den : Int) : Int) : Rat) = (p.den : Rat) * (q.den : Rat) := by push_cast; rfl
  rw [e3, e4]
  grind
theorem pos_num {p : Rat} (h : 0 < p) : 0 < p.num := by
  have := (Rat.lt_iff 0 p).mp h
  simpa using this
theorem nn_num {p : Rat} (h : 0 ≤ p) : 0 ≤ p.num := Rat.num_nonneg.mpr h
theorem div_div {p q : Rat} (hq : 0 < q) : ((p.num * (q.den : Int) : Int) : Rat) / (((p.den : Int) * q.num : Int) : Rat) = p / q := by
  have h1 := num_den p
  have h2 := num_den q
  have d1 := den_ne p
  have d2 := den_ne q
  have e3 : ((p.num * (q.den : Int) : Int) : Rat) = (p.num : Rat) * (q.den : Rat) := by push_cast; rfl
  have e4 : (((p.den : Int) * q.num : Int) : Rat) = (p.den : Rat) * (q.num : Rat) := by push_cast; rfl
  have d3 : (q.num : Rat) ≠ 0 := fun z => by
    have := pos_num hq
    have z' : q.num = 0 := by exact_mod_cast z
    omega
  rw [e3, e4]
  grind
theorem le_nd (p q : Rat) : (q ≤ p) ↔ p.num * (q.den : Int) ≥ q.num * (p.den : Int) := Rat.le_iff q p
theorem abs_mul_lt {a b : Int} {j k : Nat} (h1 : a.natAbs < 2 ^ j) (h2 : b.natAbs < 2 ^ k) : (a * b).natAbs < 2 ^ (j + k) := by
  rw [Int.natAbs_mul, Nat.pow_add]
  exact Nat.mul_lt_mul'' h1 h2
theorem abs_add_lt {a b : Int} {j : Nat} (h1 : a.natAbs < 2 ^ j) (h2 : b.natAbs < 2 ^ j) : (a + b).natAbs < 2 ^ (j + 1) := by
  rw [Nat.pow_succ]
  have := Int.natAbs_add_le a b
  omega
section
variable {j k : Nat} {p q : Rat}
theorem Sz.den (h : Sz j p) : ((p.den : Nat) : Int).natAbs < 2 ^ j := by rw [Int.natAbs_natCast]; exact h.2
theorem dd_pos (p q : Rat) : (0 : Int) < (p.den : Int) * (q.den : Int) := Int.mul_pos (by have := den_pos p; omega) (by have := den_pos q; omega)
theorem dn_pos (p : Rat) (h : 0 < q) : (0 : Int) < (p.den : Int) * q.num := Int.mul_pos (by have := den_pos p; omega) (pos_num h)
theorem Sz.add (h : Sz j p) (h' : Sz j q) : Sz (j + j + 1) (p + q) := by
  rw [← add_div]
  exact sz_divI (dd_pos p q) (abs_add_lt (abs_mul_lt h.1 h'.den) (abs_mul_lt h'.1 h.den)) (Nat.lt_of_lt_of_le (abs_mul_lt h.den h'.den) (Nat.pow_le_pow_right (by decide) (by omega)))
theorem Sz.mul (h : Sz j p) (h' : Sz j q) : Sz (j + j) (p * q) := by
  rw [← mul_div]
  exact sz_divI (dd_pos p q) (abs_mul_lt h.1 h'.1) (abs_mul_lt h.den h'.den)
theorem Sz.div (h : Sz j p) (h' : Sz j q) (hq : 0 < q) : Sz (j + j) (p / q) := by
  rw [← div_div hq]
  exact sz_divI (dn_pos p hq) (abs_mul_lt h.1 h'.den) (abs_mul_lt h.den h'.1)
end
end My

/-! own layer, 3: what the laws' own helpers promise -/
namespace My
open PySem PySem.Spec PyProof.Rows L2
/-- a pot at p, of at most n draws -/
def Pot (H : Hp) (p : Addr) (n : Int) : Prop := ∃ a b c : Int, H p = some (.lst [.int a, .int b, .int c]) ∧ 0 ≤ a ∧ 0 ≤ b ∧ b < 2305843009213693952 ∧ 0 ≤ c ∧ c ≤ n
def spTake : Sp := fun vs H Q _ => ∃ (p : Addr) (u n : Int), vs = [.ref p, .int u] ∧ Pot H p n ∧ n < 1000000 ∧ 0 < u ∧ u < 1000000000 ∧ ∀ (r : Int) (H' : Hp), 0 ≤ r → r < u → Pot H' p (n + 1) → But p H H' → Q (.int r) H'
def spOf (K : PySem.W.Frag) : Sp := fun vs H Q _ => ∃ (p q : Addr) (xs : List V) (n : Int), vs = [.ref p, .ref q] ∧ Pot H p n ∧ n < 1000000 ∧ q ≠ p ∧ SqL K H q xs ∧ 0 < xs.length ∧ xs.length < 1000000 ∧
  ∀ (v : V) (H' : Hp), v ∈ xs → Pot H' p (n + 1) → But p H H' → Q v H'
def spCells (K : PySem.W.Frag) : Sp := fun vs H Q _ => ∃ (a : Addr) (ns : List Int) (m : Int), vs = [.ref a, .int m] ∧ SqL K H a (ns.map V.int) ∧ ns.length ≤ 63 ∧ m ≤ 100 ∧
  ∀ (q : Addr) (H' : Hp) (j : Nat), j ≤ 100 → Same H H' → H q = none → H' q = some (.lst (rgV 0 j)) → Q (.ref q) H'
def spPot (K : PySem.W.Frag) : Sp := fun vs H Q _ => ∃ (a : Addr) (ns : List Int) (i : Int), vs = [.ref a, .int i] ∧ SqL K H a (ns.map V.int) ∧ 0 ≤ i ∧ i ≤ 100 ∧
  ∀ (p : Addr) (H' : Hp), Same H H' → H p = none → Pot H' p 0 → Q (.ref p) H'
def spCommon : Sp := fun vs H Q _ => ∃ a b : Int, vs = [.int a, .int b] ∧ Q (.int ((Nat.gcd a.natAbs b.natAbs : Nat) : Int)) H
def spPair : Sp := fun vs H Q _ => ∃ a b : Int, vs = [.int a, .int b] ∧ 0 < b ∧ a.natAbs < 2 ^ 4000 ∧ b.natAbs < 2 ^ 4000 ∧
  ∀ (p : Addr) (H' : Hp), Same H H' → H p = none → H' p = some (.tup (rat ((a : Rat) / b))) → Q (.ref p) H'
end My

/-! own layer, 4: ratios and sources -/
namespace My
open PySem PySem.Spec PyProof.Rows L2
section
variable {K : PySem.W.Frag} {H H' : Hp} {a p : Addr} {xs : List V}
theorem tyT (h : SqT K H a xs) : TyX K H (.ref a) (.type "tuple") := by
  rcases h with (h | ⟨o, h⟩) | ⟨o, its, n, hk, hc, _⟩
  · exact .base (.tup h)
  · exact .fTuple h
  · exact .kTuple hk hc
/-- a list that changes is no tuple that is read -/
theorem seqT_but {l : List V} (hp : H p = some (.lst l)) (B : But p H H') (h : SqT K H a xs) : SqT K H' a xs := by
  rcases h with (h | ⟨o, h⟩) | h
  · exact .inl (.inl (B _ _ (fun z => by rw [z, hp] at h; cases h) h))
  · exact .inl (.inr ⟨o, B _ _ (fun z => by rw [z, hp] at h; cases h) h⟩)
  · exact .inr h
theorem Pot.but {n : Int} (hP : Pot H p n) (B : But p H H') (h : SqT K H a xs) : SqT K H' a xs := by
  obtain ⟨_, _, _, hp, _⟩ := hP
  exact seqT_but hp B h
theorem Pot.mono {n m : Int} (hP : Pot H p n) (h : n ≤ m) : Pot H p m := by
  obtain ⟨a, b, c, hp, h1, h2, h3, h4, h5⟩ := hP
  exact ⟨a, b, c, hp, h1, h2, h3, h4, Int.le_trans h5 h⟩
theorem Pot.same {n : Int} (hP : Pot H p n) (S : Same H H') : Pot H' p n := by
  obtain ⟨a, b, c, hp, h⟩ := hP
  exact ⟨a, b, c, S _ _ hp, h⟩
end
section
variable {K : PySem.W.Frag} {H : Hp} {Q : VK} {b : Bool}
theorem i_isiI {i : Int} {n : String} (e : kitB "int" n = some b) (h : Q (.bl b) H) : rIsi K [.int i, .ty n] H Q := ⟨_, _, _, _, b, rfl, .ty n, .base (.int i), kit_ty e, h⟩
theorem i_isiT {a : Addr} {xs : List V} {n : String} (hx : SqT K H a xs) (e : kitB "tuple" n = some b) (h : Q (.bl b) H) : rIsi K [.ref a, .ty n] H Q := ⟨_, _, _, _, b, rfl, .ty n, tyT hx, kit_ty e, h⟩
theorem i_tupg {n : Nat} {t : TGs} {a : Addr} {xs : List V} {σ : L2.St} {R : L2.St → Hp → Prop} (hx : SqT K H a xs) (hl : xs.length = n) (h : t xs σ H R) : gTup K n t (.ref a) σ H R := ⟨a, xs, rfl, hx, hl, h⟩
theorem i_gcons {t : TG} {u : TGs} {v : V} {r : List V} {σ : L2.St} {R : L2.St → Hp → Prop} (h : t v σ H fun σ' H' => u r σ' H' R) : gCons t u (v :: r) σ H R := ⟨v, r, rfl, h⟩
theorem i_gnil {σ : L2.St} {R : L2.St → Hp → Prop} (h : R σ H) : gNil [] σ H R := ⟨rfl, h⟩
end
/-- one value, an integer -/
def spIsInt : Sp := fun vs H Q _ => ∃ i : Int, vs = [.int i] ∧ Q (.bl true) H
def spIsRatio (K : PySem.W.Frag) : Sp := fun vs H Q _ => ∃ (a : Addr) (p : Rat), vs = [.ref a] ∧ SqT K H a (rat p) ∧ 0 ≤ p ∧ Q (.bl true) H
/-- two ratios and what comes of them: a new ratio -/
def spBin (K : PySem.W.Frag) (pre : Rat → Rat → Prop) (f : Rat → Rat → Rat) : Sp := fun vs H Q _ => ∃ (a b : Addr) (p q : Rat) (j : Nat), vs = [.ref a, .ref b] ∧ SqT K H a (rat p) ∧ SqT K H b (rat q) ∧ Sz j p ∧ Sz j q ∧ j ≤ 1900 ∧ pre p q ∧
  ∀ (r : Addr) (H' : Hp), Same H H' → H r = none → H' r = some (.tup (rat (f p q))) → Q (.ref r) H'
abbrev spPlus (K : PySem.W.Frag) : Sp := spBin K (fun _ _ => True) fun p q => p + q
abbrev spTimes (K : PySem.W.Frag) : Sp := spBin K (fun _ _ => True) fun p q => p * q
abbrev spOver (K : PySem.W.Frag) : Sp := spBin K (fun _ q => 0 < q) fun p q => p / q
/-- a comparison of two ratios -/
def spCmp (K : PySem.W.Frag) (f : Rat → Rat → Bool) : Sp := fun vs H Q _ => ∃ (a b : Addr) (p q : Rat) (j : Nat), vs = [.ref a, .ref b] ∧ SqT K H a (rat p) ∧ SqT K H b (rat q) ∧ Sz j p ∧ Sz j q ∧ j ≤ 1900 ∧ Q (.bl (f p q)) H
abbrev spAtLeast (K : PySem.W.Frag) : Sp := spCmp K fun p q => decide (q ≤ p)
theorem mulZ {i j : Int} {a : Nat} (h1 : i.natAbs < 2 ^ a) (h2 : j.natAbs < 2 ^ a) (h : a ≤ 100000) : CMulW i j :=
  wide_mul (a := a + 1) (b := a + 1) (Nat.lt_of_lt_of_le h1 (Nat.pow_le_pow_right (by decide) (by omega))) (Nat.lt_of_lt_of_le h2 (Nat.pow_le_pow_right (by decide) (by omega))) (by omega) (by omega) (by omega)
theorem pow_le_4000 {n j : Nat} (h : n < 2 ^ j) (hj : j ≤ 4000) : n < 2 ^ 4000 := Nat.lt_of_lt_of_le h (Nat.pow_le_pow_right (by decide) hj)
/-! ### sources -/
def srcF (v o : Addr) : List (Str × V) := [("_volts", .ref v), ("_ohms", .ref o)]
theorem srcF_eq (v o : Addr) : putF "_ohms" (.ref o) (putF "_volts" (.ref v) []) = srcF v o := by
  show (if ("_volts" : Str) = "_ohms" then _ else _ :: _) = _
  rw [if_neg (by decide +kernel)]
  rfl
theorem srcF_v (v o : Addr) : (srcF v o).lookup ("_volts" : Str) = some (.ref v) := rfl
theorem srcF_o (v o : Addr) : (srcF v o).lookup ("_ohms" : Str) = some (.ref o) := rfl
theorem srcF_no {v o : Addr} {m : Str} (h1 : ¬ m = "_volts") (h2 : ¬ m = "_ohms") : (srcF v o).lookup m = none := by
  unfold srcF
  rw [List.lookup_cons, List.lookup_cons, beq_false_of_ne h1, beq_false_of_ne h2]
  rfl
/-- a source of these volts and ohms stands at s -/
def SrcAt (K : PySem.W.Frag) (C : Addr) (H : Hp) (s : Addr) (v r : Rat) : Prop := ∃ dx a b, H s = some (.ins C dx (srcF a b)) ∧ SqT K H a (rat v) ∧ SqT K H b (rat r) ∧ 0 ≤ v ∧ 0 ≤ r
section
variable {K : PySem.W.Frag} {C : Addr} {H H' : Hp} {s p : Addr} {v r : Rat}
theorem SrcAt.same (h : SrcAt K C H s v r) (S : Same H H') : SrcAt K C H' s v r := by
  obtain ⟨dx, a, b, h1, h2, h3, h4⟩ := h
  exact ⟨dx, a, b, S _ _ h1, L2.Same.seqT S h2, L2.Same.seqT S h3, h4⟩
theorem SrcAt.but {n : Int} (h : SrcAt K C H s v r) (hP : Pot H p n) (B : But p H H') : SrcAt K C H' s v r := by
  obtain ⟨dx, a, b, h1, h2, h3, h4⟩ := h
  obtain ⟨x, y, z, hp, _⟩ := id hP
  exact ⟨dx, a, b, B _ _ (fun e => by rw [e, hp] at h1; cases h1) h1, hP.but B h2, hP.but B h3, h4⟩
end
/-- the volts, the ohms of a source -/
def spVolts (C : Addr) : Sp := fun vs H Q _ => ∃ s dx a b, vs = [.ref s] ∧ H s = some (.ins C dx (srcF a b)) ∧ Q (.ref a) H
def spOhms (C : Addr) : Sp := fun vs H Q _ => ∃ s dx a b, vs = [.ref s] ∧ H s = some (.ins C dx (srcF a b)) ∧ Q (.ref b) H
def spSrcInit (K : PySem.W.Frag) (C : Addr) : Sp := fun vs H Q _ => ∃ s dx a b v r, vs = [.ref s, .ref a, .ref b] ∧ H s = some (.ins C dx []) ∧ SqT K H a (rat v) ∧ SqT K H b (rat r) ∧ 0 ≤ v ∧ 0 ≤ r ∧
  ∀ H', But s H H' → H' s = some (.ins C dx (srcF a b)) → Q .non H'
/-- 1 + r * g -/
def spWeak (K : PySem.W.Frag) : Sp := fun vs H Q _ => ∃ (a b : Addr) (r g : Rat) (j : Nat), vs = [.ref a, .ref b] ∧ SqT K H a (rat r) ∧ SqT K H b (rat g) ∧ Sz j r ∧ Sz j g ∧ j ≤ 400 ∧ 0 ≤ r ∧ 0 ≤ g ∧
  ∀ (p : Addr) (H' : Hp), Same H H' → H p = none → H' p = some (.tup (rat (1 + r * g))) → Q (.ref p) H'
def spAt (K : PySem.W.Frag) (C : Addr) : Sp := fun vs H Q _ => ∃ (s b : Addr) (v r g : Rat) (j : Nat), vs = [.ref s, .ref b] ∧ SrcAt K C H s v r ∧ SqT K H b (rat g) ∧ Sz j v ∧ Sz j r ∧ Sz j g ∧ j ≤ 400 ∧ 0 ≤ g ∧
  ∀ (p : Addr) (H' : Hp), Same H H' → H p = none → H' p = some (.tup (rat (v / (1 + r * g)))) → Q (.ref p) H'
def spUnder (K : PySem.W.Frag) (C : Addr) : Sp := fun vs H Q _ => ∃ (s b : Addr) (v r g : Rat) (j : Nat), vs = [.ref s, .ref b] ∧ SrcAt K C H s v r ∧ SqT K H b (rat g) ∧ Sz j v ∧ Sz j r ∧ Sz j g ∧ j ≤ 400 ∧ 0 ≤ g ∧
  ∀ (p : Addr) (H' : Hp), Same H H' → H p = none → SrcAt K C H' p (v / (1 + r * g)) (r / (1 + r * g)) → Q (.ref p) H'
/-- whether one source covers another one -/
def strong (v r w s : Rat) : Bool := decide (w ≤ v) && decide (w * r ≤ v * s)
def spSrcCmp (K : PySem.W.Frag) (C : Addr) (f : Rat → Rat → Rat → Rat → Bool) : Sp := fun vs H Q _ => ∃ (s t : Addr) (v r w u : Rat) (j : Nat), vs = [.ref s, .ref t] ∧ SrcAt K C H s v r ∧ SrcAt K C H t w u ∧ Sz j v ∧ Sz j r ∧ Sz j w ∧ Sz j u ∧ j ≤ 800 ∧
  ∀ H', Same H H' → Q (.bl (f v r w u)) H'
/-- what isinstance asks of the class of an instance -/
structure InsC (K : PySem.W.Frag) (C : Addr) : Prop where
  ha : PySem.W.findIn K (.ref C) "__class__" = some (some (.builtin "object.__class__"))
  hn : PySem.W.specialIn K (.builtin "object.__class__") "__get__" = some (some (.builtin "getset_descriptor.__get__"))
  ht : PySem.W.takesIn K (.builtin "object.__class__") = some true
  hm : PySem.W.mroIn K C (.type "object") = some true
theorem i_isiS {K : PySem.W.Frag} {C : Addr} {H : Hp} {s dx : Addr} {fs : List (Str × V)} {Q : VK} (h : H s = some (.ins C dx fs)) (c : Cls K C) (y : InsC K C) (k : Q (.bl true) H) : rIsi K [.ref s, .ref C] H Q :=
  ⟨_, _, _, _, true, rfl, .own C, .base (.ins h c y.ha y.hn y.ht y.hm), by unfold PySem.W.kitOne; rw [if_pos (beq_self_eq_true _)], k⟩
/-! ### fields, properties, methods, makes: named, so that a step finds them -/
def FldQ (K : PySem.W.Frag) (f : Str) (x : V) (H : Hp) (Q : VK) : Prop := ∃ a C dx fs v, x = .ref a ∧ H a = some (.ins C dx fs) ∧ Cls K C ∧ NoAttr K C f ∧ fs.lookup f = some v ∧ Q v H
def PropQ (C : Addr) (sp : Sp) (dvs : List V) (E : XK) (x : V) (H : Hp) (Q : VK) : Prop := ∃ a dx fs, x = .ref a ∧ H a = some (.ins C dx fs) ∧ sp (.ref a :: dvs) H Q E
def MethQ (C : Addr) (m : Str) (sp : Sp) (dvs : List V) (E : XK) (t : TA) (σ : L2.St) (x : V) (H : Hp) (Q : VK) : Prop := ∃ a dx fs, x = .ref a ∧ H a = some (.ins C dx fs) ∧ fs.lookup m = none ∧ t σ H fun vs H2 => sp (x :: (vs ++ dvs)) H2 Q E
def MakeQ (C : Addr) (sp : Sp) (dvs : List V) (E : XK) (vs : List V) (H : Hp) (Q : VK) : Prop := ∀ x dx, H x = none → H dx = none → dx ≠ x → sp (.ref x :: (vs ++ dvs)) (upd (upd H dx (.own x)) x (.ins C dx [])) (fun v H2 => v = .non ∧ Q (.ref x) H2) E
section
variable {K : PySem.W.Frag} {σ : L2.St} {H : Hp} {ta : TE} {t : TA} {Q : VK} {C s a b dx : Addr} {sp : Sp} {dvs : List V} {E : XK} {m f : Str} {D : Ends} {v r : Rat} {te : TE}
theorem i_fld0 (h : ta σ H fun x H1 => FldQ K f x H1 Q) : tFld K ta f σ H Q := h
theorem i_prop (h : ta σ H fun x H1 => PropQ C sp dvs E x H1 Q) : tProp C sp dvs E ta σ H Q := h
theorem i_meth (h : ta σ H fun x H1 => MethQ C m sp dvs E t σ x H1 Q) : tMeth C m sp dvs E ta t σ H Q := h
theorem i_make (h : t σ H fun vs H1 => MakeQ C sp dvs E vs H1 Q) : tMake C sp dvs E t σ H Q := h
theorem i_fv (h : H s = some (.ins C dx (srcF a b))) (c : Cls K C) (n : NoAttr K C "_volts") (k : Q (.ref a) H) : FldQ K "_volts" (.ref s) H Q := ⟨s, C, dx, _, _, rfl, h, c, n, srcF_v a b, k⟩
theorem i_fo (h : H s = some (.ins C dx (srcF a b))) (c : Cls K C) (n : NoAttr K C "_ohms") (k : Q (.ref b) H) : FldQ K "_ohms" (.ref s) H Q := ⟨s, C, dx, _, _, rfl, h, c, n, srcF_o a b, k⟩
theorem i_pv (h : H s = some (.ins C dx (srcF a b))) (k : Q (.ref a) H) : PropQ C (spVolts C) [] E (.ref s) H Q := ⟨s, dx, _, rfl, h, s, dx, a, b, rfl, h, k⟩
theorem i_po (h : H s = some (.ins C dx (srcF a b))) (k : Q (.ref b) H) : PropQ C (spOhms C) [] E (.ref s) H Q := ⟨s, dx, _, rfl, h, s, dx, a, b, rfl, h, k⟩
theorem i_me (h : H s = some (.ins C dx (srcF a b))) (h1 : ¬ m = "_volts") (h2 : ¬ m = "_ohms") (k : t σ H fun vs H2 => sp (.ref s :: (vs ++ dvs)) H2 Q E) : MethQ C m sp dvs E t σ (.ref s) H Q := ⟨s, dx, _, rfl, h, srcF_no h1 h2, k⟩
theorem i_mkS (ha : SqT K H a (rat v)) (hb : SqT K H b (rat r)) (hv : 0 ≤ v) (hr : 0 ≤ r) (k : ∀ s H2, Same H H2 → H s = none → SrcAt K C H2 s v r → Q (.ref s) H2) : MakeQ C (spSrcInit K C) [] E [.ref a, .ref b] H Q := by
  intro x dx hx hd hne
  have S : Same H (upd (upd H dx (.own x)) x (.ins C dx [])) := fun c o e => by
    rw [upd_ne (ne_of_none e hx), upd_ne (ne_of_none e hd)]
    exact e
  refine ⟨x, dx, a, b, v, r, rfl, upd_same, L2.Same.seqT S ha, L2.Same.seqT S hb, hv, hr, fun H' B e => ⟨rfl, ?_⟩⟩
  have S2 : Same H H' := fun c o e => B c o (ne_of_none e hx) (S c o e)
  exact k x H' S2 hx ⟨dx, a, b, e, L2.Same.seqT S2 ha, L2.Same.seqT S2 hb, hv, hr⟩
/-- self.f = e -/
theorem i_sfld (h : te σ H fun y H1 => ta σ H1 fun x H2 => ∃ a C dx fs, x = .ref a ∧ H2 a = some (.ins C dx fs) ∧ Cls K C ∧ NoAttr K C f ∧ fs.length < 1000 ∧ D.nx σ (upd H2 a (.ins C dx (putF f y fs)))) : sFld K ta te f D σ H := h
theorem one_pos {r g : Rat} (hr : 0 ≤ r) (hg : 0 ≤ g) : 0 < 1 + r * g := by
  have := Rat.mul_nonneg hr hg
  grind
theorem div_nn {p q : Rat} (hp : 0 ≤ p) (hq : 0 < q) : 0 ≤ p / q := by
  rw [Rat.div_def]
  exact Rat.mul_nonneg hp (Rat.le_of_lt (Rat.inv_pos.mpr hq))
theorem sz_one {j : Nat} (h : 0 < j) : Sz j 1 := ⟨Nat.one_lt_pow (by omega) (by decide), Nat.one_lt_pow (by omega) (by decide)⟩
theorem Sz.weak {j : Nat} {r g : Rat} (h1 : Sz j r) (h2 : Sz j g) : Sz (2 * j + 2 * j + 3) (1 + r * g) := by
  have a := (h1.mul h2).mono (k := 2 * j + 1) (by omega)
  exact ((sz_one (j := 2 * j + 1) (by omega)).add a).mono (by omega)
end
end My

/-! own layer: what is walked, list comprehensions -/
namespace My
open PySem PySem.Spec PyProof.Rows L2
def LcQ (J : It) (g : TG) (tt : TT) (te : TE) (vs : List Nat) (σ : L2.St) (H1 : Hp) (Q : VK) : Prop := ∀ D, H1 D = none → ∃ W : Nat → Nat → Hp → Prop, (∃ m, W 0 m (upd H1 D (.lst []))) ∧ ∀ i m H, W i m H →
  (J.stop i H ∧ Q (.ref D) H) ∨ (J.go i H ∧ ∃ Nx : Hp → Prop, (∀ H', Nx H' → ∃ m', m' < m ∧ W (i + 1) m' H') ∧ ∀ x H', J.yld i H x H' → g x (wipe σ vs) H' fun σ2 H2 => wipe σ2 vs = wipe σ vs ∧ tt σ2 H2 fun b H3 =>
    if b = true then te σ2 H3 fun y H4 => ∃ acc, H4 D = some (.lst acc) ∧ acc.length < sizeLine ∧ Nx (upd H4 D (.lst (acc ++ [y]))) else Nx H3)
def ForQ (J : It) (g : TG) (tb : TS) (D : Ends) (σ : L2.St) (H1 : Hp) : Prop := ∃ W : Nat → Nat → L2.St → Hp → Prop, (∃ m, W 0 m σ H1) ∧ ∀ i m σ H, W i m σ H →
  (J.stop i H ∧ D.nx σ H) ∨ (J.go i H ∧ ∃ N : L2.St → Hp → Prop, (∀ σ' H', N σ' H' → ∃ m', m' < m ∧ W (i + 1) m' σ' H') ∧ ∀ x H', J.yld i H x H' → g x σ H' fun σ2 H2 => tb { D with nx := N, ct := N, bk := D.nx } σ2 H2)
def RngQ (vs : List V) (H : Hp) (R : It → Hp → Prop) : Prop := ∃ j : Int, vs = [.int j] ∧ -(2 ^ 62) ≤ j ∧ j < 2 ^ 62 ∧ R (Itr 0 j.toNat) H
def WlkL (K : PySem.W.Frag) (x : V) (H : Hp) (R : It → Hp → Prop) : Prop := ∃ a, x = .ref a ∧ (∃ xs, SqL K H a xs) ∧ R (Itl K a) H
def WlkT (K : PySem.W.Frag) (x : V) (H : Hp) (R : It → Hp → Prop) : Prop := ∃ a, x = .ref a ∧ (∃ xs, SqT K H a xs) ∧ R (Itt K a) H
section
variable {K : PySem.W.Frag} {σ : L2.St} {H : Hp} {wi : TI} {g : TG} {tt : TT} {te tl : TE} {tb : TS} {ta : TA} {vs : List Nat} {Q : VK} {D : Ends} {R : It → Hp → Prop} {a : Addr} {xs : List V}
theorem i_lc (h : wi σ H fun J H1 => LcQ J g tt te vs σ H1 Q) : tLc wi g tt te vs σ H Q := h
theorem i_for (h : wi σ H fun J H1 => ForQ J g tb D σ H1) : tFor wi g tb D σ H := h
theorem i_rng (h : ta σ H fun vs H1 => RngQ vs H1 R) : iRng1 ta σ H R := h
theorem i_rngv {j : Int} (h1 : -(2 ^ 62) ≤ j) (h2 : j < 2 ^ 62) (h : R (Itr 0 j.toNat) H) : RngQ [.int j] H R := ⟨j, rfl, h1, h2, h⟩
theorem i_wl (h : tl σ H fun x H1 => WlkL K x H1 R) : iList K tl σ H R := h
theorem i_wt (h : tl σ H fun x H1 => WlkT K x H1 R) : iTup K tl σ H R := h
theorem i_wlv (hl : SqL K H a xs) (h : R (Itl K a) H) : WlkL K (.ref a) H R := ⟨a, rfl, ⟨xs, hl⟩, h⟩
theorem i_wtv (hl : SqT K H a xs) (h : R (Itt K a) H) : WlkT K (.ref a) H R := ⟨a, rfl, ⟨xs, hl⟩, h⟩
/-- what a turn's element is to reach -/
def TurnP (Pv : Addr → Nat → Hp → List V → Prop) (A : Addr) (i : Nat) : VK := fun y H4 => ∃ acc, H4 A = some (.lst acc) ∧ acc.length < sizeLine ∧
  ∃ acc', acc'.length = i + 1 ∧ upd H4 A (.lst (acc ++ [y])) A = some (.lst acc') ∧ Pv A (i + 1) (upd H4 A (.lst (acc ++ [y]))) acc'
theorem turn_end {Pv : Addr → Nat → Hp → List V → Prop} {A : Addr} {i : Nat} {acc : List V} {y : V} (h : H A = some (.lst acc)) (hl : acc.length = i) (hi : i < 1000000) (k : ∀ H5, But A H H5 → H5 A = some (.lst (acc ++ [y])) → Pv A (i + 1) H5 (acc ++ [y])) : TurnP Pv A i y H :=
  ⟨acc, h, by rw [hl]; exact Nat.lt_trans hi (by decide), acc ++ [y], by rw [List.length_append, hl]; rfl, upd_same, k _ But.upd upd_same⟩
theorem lcq_range {lo : Int} {n : Nat} (Pv : Addr → Nat → Hp → List V → Prop) (h0 : ∀ A H', Same H H' → H A = none → H' A = some (.lst []) → Pv A 0 H' [])
    (hs : ∀ A i H' acc, i < n → acc.length = i → H' A = some (.lst acc) → Pv A i H' acc → g (.int (lo + i)) (wipe σ vs) H' fun σ2 H2 => wipe σ2 vs = wipe σ vs ∧ te σ2 H2 (TurnP Pv A i))
    (hd : ∀ A H' acc, acc.length = n → H' A = some (.lst acc) → Pv A n H' acc → Q (.ref A) H') : LcQ (Itr lo n) g tYes te vs σ H Q := by
  intro A hA
  refine lc_range (fun i H' => ∃ acc, acc.length = i ∧ H' A = some (.lst acc) ∧ Pv A i H' acc) ⟨[], rfl, upd_same, h0 A _ (fun b u e => by rw [upd_ne (ne_of_none e hA)]; exact e) hA upd_same⟩ ?_ (fun H' ⟨acc, h1, h2, h3⟩ => hd A H' acc h1 h2 h3)
  rintro i H' hi ⟨acc, hl, hA', hP⟩
  exact hs A i H' acc hi hl hA' hP
theorem lcq_list {xs : List V} {a : Addr} (Pv : Addr → Nat → Hp → List V → Prop) (h0 : ∀ A H', Same H H' → H A = none → H' A = some (.lst []) → Pv A 0 H' []) (hl : ∀ A i H' acc, H' A = some (.lst acc) → Pv A i H' acc → SqL K H' a xs)
    (hs : ∀ A i x H' acc, xs[i]? = some x → acc.length = i → H' A = some (.lst acc) → Pv A i H' acc → g x (wipe σ vs) H' fun σ2 H2 => wipe σ2 vs = wipe σ vs ∧ te σ2 H2 (TurnP Pv A i))
    (hd : ∀ A H' acc, acc.length = xs.length → H' A = some (.lst acc) → Pv A xs.length H' acc → Q (.ref A) H') : LcQ (Itl K a) g tYes te vs σ H Q := by
  intro A hA
  refine lc_list (xs := xs) (fun i H' => ∃ acc, acc.length = i ∧ H' A = some (.lst acc) ∧ Pv A i H' acc) ⟨[], rfl, upd_same, h0 A _ (fun b u e => by rw [upd_ne (ne_of_none e hA)]; exact e) hA upd_same⟩ (fun i H' _ ⟨acc, h1, h2, h3⟩ => hl A i H' acc h2 h3) ?_ (fun H' ⟨acc, h1, h2, h3⟩ => hd A H' acc h1 h2 h3)
  rintro i x H' hx ⟨acc, hl, hA', hP⟩
  exact hs A i x H' acc hx hl hA' hP
theorem lcq_tup {xs : List V} {a : Addr} (Pv : Addr → Nat → Hp → List V → Prop) (h0 : ∀ A H', Same H H' → H A = none → H' A = some (.lst []) → Pv A 0 H' []) (hl : ∀ A i H' acc, H' A = some (.lst acc) → Pv A i H' acc → SqT K H' a xs)
    (hs : ∀ A i x H' acc, xs[i]? = some x → acc.length = i → H' A = some (.lst acc) → Pv A i H' acc → g x (wipe σ vs) H' fun σ2 H2 => wipe σ2 vs = wipe σ vs ∧ te σ2 H2 (TurnP Pv A i))
    (hd : ∀ A H' acc, acc.length = xs.length → H' A = some (.lst acc) → Pv A xs.length H' acc → Q (.ref A) H') : LcQ (Itt K a) g tYes te vs σ H Q := by
  intro A hA
  refine lc_tup (xs := xs) (fun i H' => ∃ acc, acc.length = i ∧ H' A = some (.lst acc) ∧ Pv A i H' acc) ⟨[], rfl, upd_same, h0 A _ (fun b u e => by rw [upd_ne (ne_of_none e hA)]; exact e) hA upd_same⟩ (fun i H' _ ⟨acc, h1, h2, h3⟩ => hl A i H' acc h2 h3) ?_ (fun H' ⟨acc, h1, h2, h3⟩ => hd A H' acc h1 h2 h3)
  rintro i x H' hx ⟨acc, hl, hA', hP⟩
  exact hs A i x H' acc hx hl hA' hP
theorem forq_list {K : PySem.W.Frag} {a : Addr} {xs : List V} {g : TG} {tb : TS} {D : Ends} {σ : L2.St} {H : Hp} (Pv : Nat → L2.St → Hp → Prop) (h0 : Pv 0 σ H) (hl : ∀ i σ H, i ≤ xs.length → Pv i σ H → SqL K H a xs)
    (hs : ∀ i x σ H, xs[i]? = some x → Pv i σ H → g x σ H fun σ2 H2 => tb { D with nx := Pv (i + 1), ct := Pv (i + 1), bk := D.nx } σ2 H2) (hd : ∀ σ H, Pv xs.length σ H → D.nx σ H) : ForQ (Itl K a) g tb D σ H := for_list Pv h0 hl hs hd
theorem forq_tup {K : PySem.W.Frag} {a : Addr} {xs : List V} {g : TG} {tb : TS} {D : Ends} {σ : L2.St} {H : Hp} (Pv : Nat → L2.St → Hp → Prop) (h0 : Pv 0 σ H) (hl : ∀ i σ H, i ≤ xs.length → Pv i σ H → SqT K H a xs)
    (hs : ∀ i x σ H, xs[i]? = some x → Pv i σ H → g x σ H fun σ2 H2 => tb { D with nx := Pv (i + 1), ct := Pv (i + 1), bk := D.nx } σ2 H2) (hd : ∀ σ H, Pv xs.length σ H → D.nx σ H) : ForQ (Itt K a) g tb D σ H := for_tup Pv h0 hl hs hd
/-! ### all, any; unpacking a list; three at once -/
theorem i_all {bs : List Bool} {a : Addr} (hl : SqL K H a (bs.map V.bl)) (h : Q (.bl (bs.all id)) H) : rAll K [.ref a] H Q := ⟨a, bs, rfl, hl, h⟩
theorem i_any {bs : List Bool} {a : Addr} (hl : SqL K H a (bs.map V.bl)) (h : Q (.bl (bs.any id)) H) : rAny K [.ref a] H Q := ⟨a, bs, rfl, hl, h⟩
theorem i_unl {n : Nat} {t : TGs} {a : Addr} {xs : List V} {σ : L2.St} {R : L2.St → Hp → Prop} (hx : SqL K H a xs) (hl : xs.length = n) (h : t xs σ H R) : gUnl K n t (.ref a) σ H R := ⟨a, xs, rfl, hx, hl, h⟩
theorem i_par3 {i j l : Nat} {ta : TA} (h : ta σ H fun vs H1 => ∃ u v w, vs = [u, v, w] ∧ D.nx (((σ.set i (some u)).set j (some v)).set l (some w)) H1) : tPar3 i j l ta D σ H := h
theorem i_three {x y z : V} {P : V → V → V → Prop} (h : P x y z) : ∃ u v w, [x, y, z] = [u, v, w] ∧ P u v w := ⟨x, y, z, rfl, h⟩
end
end My

/-! what the helpers of one law promise: sources compared -/
namespace My
open PySem PySem.Spec PyProof.Rows L2
section
variable {X : Cx}
def rReprB : List V → Hp → VK → Prop := fun xs H Q => ∃ b, xs = [.bl b] ∧ Q (.str (if b then "True" else "False")) H
theorem op_eqK {K : PySem.W.Frag} (hu : X.A.units + 64 < cLine) (hK : X.K = K) : OpR X (compareOp .Eq) (rEqD K) := by
  subst hK
  exact op_eqD hu
theorem pg_tupK {K : PySem.W.Frag} {es : List Expr} {i n : Nat} {pos : Pos} {t : TGs} (hc : X.calm = true) (hK : X.K = K) (h : PGs X es t) (hn : (assignEach es X.env).length = n := by rfl) (hs : List.findIdx? (fun x => x.fst) (assignEach es X.env) = none := by rfl) : PG X (.Tuple es i pos) (gTup K n t) := by
  subst hK
  exact pg_tup hc h hn hs
theorem cr_reprB : CallR X (.builtin "repr") rReprB := by
  intro pins s σ H xs us Q I r h
  obtain ⟨b, rfl, q⟩ := h
  cases r with
  | cons r1 rr =>
    cases rr
    cases r1
    exact PySem.P.repr_of_bool ⟨.str _, H, I.tok _, ⟨_, rfl⟩, q⟩
end
section
variable {H : Hp} {Q : VK}
theorem i_reprB {b : Bool} (h : Q (.str (if b then "True" else "False")) H) : rReprB [.bl b] H Q := ⟨b, rfl, h⟩
theorem i_neS {x y : Str} (e : x = y) (h : Q (.bl false) H) : rNe (.str x) (.str y) H Q := ⟨rfl, by rw [e, decide_eq_true rfl]; exact h⟩
end
theorem div_nnI {a b : Int} (ha : 0 ≤ a) (hb : 0 < b) : (0 : Rat) ≤ (a : Rat) / (b : Rat) := div_nn (by exact_mod_cast ha) (by exact_mod_cast hb)
theorem i_eqB {H : Hp} {Q : VK} {a b : Int} (h1 : a = b → Q (.bl true) H) (h2 : ¬ a = b → Q (.bl false) H) : rEq (.int a) (.int b) H Q :=
  if e : a = b then i_eqT e (h1 e) else i_eqF e (h2 e)
theorem sz_zero : Sz 1 0 := ⟨by decide, by decide⟩
theorem ite_d2 {c A B : Prop} [Decidable c] (h1 : c → A) (h2 : ¬ c → B) : if decide c = true then A else B :=
  if e : c then ite_d e (h1 e) else ite_dn e (h2 e)
theorem not_less {x y : Rat} : (!decide (x < y)) = (true && decide (y ≤ x)) := by
  rw [Bool.true_and, ← decide_not, decide_eq_decide]
  exact Rat.not_lt
abbrev spLess (K : PySem.W.Frag) : Sp := spCmp K fun p q => decide (p < q)
/-- a pair of ratios: volts, ohms -/
def PairAt (K : PySem.W.Frag) (H : Hp) (s : Addr) (v r : Rat) : Prop := ∃ a b, SqT K H s [.ref a, .ref b] ∧ SqT K H a (rat v) ∧ SqT K H b (rat r) ∧ 0 ≤ v ∧ 0 ≤ r
section
variable {K : PySem.W.Frag} {H H' : Hp} {s p : Addr} {v r : Rat}
theorem PairAt.same (h : PairAt K H s v r) (S : Same H H') : PairAt K H' s v r := by
  obtain ⟨a, b, h1, h2, h3, h4⟩ := h
  exact ⟨a, b, S.seqT h1, S.seqT h2, S.seqT h3, h4⟩
theorem PairAt.but {n : Int} (h : PairAt K H s v r) (hP : Pot H p n) (B : But p H H') : PairAt K H' s v r := by
  obtain ⟨a, b, h1, h2, h3, h4⟩ := h
  exact ⟨a, b, hP.but B h1, hP.but B h2, hP.but B h3, h4⟩
end
theorem PairAt.butL {K : PySem.W.Frag} {H H' : Hp} {s p : Addr} {v r : Rat} {ys : List V} (h : PairAt K H s v r) (hp : H p = some (.lst ys)) (B : But p H H') : PairAt K H' s v r := by
  obtain ⟨a, b, h1, h2, h3, h4⟩ := h
  exact ⟨a, b, seqT_but hp B h1, seqT_but hp B h2, seqT_but hp B h3, h4⟩
theorem Sz.read {j : Nat} {v r g : Rat} (h1 : Sz j v) (h2 : Sz j r) (h3 : Sz j g) (hr : 0 ≤ r) (hg : 0 ≤ g) : Sz (8 * j + 6) (v / (1 + r * g)) :=
  ((h1.mono (by omega)).div (h2.weak h3) (one_pos hr hg)).mono (by omega)
def spRead (K : PySem.W.Frag) : Sp := fun vs H Q _ => ∃ (a s : Addr) (g v r : Rat) (j : Nat), vs = [.ref a, .ref s] ∧ SqT K H a (rat g) ∧ PairAt K H s v r ∧ 0 ≤ g ∧ Sz j g ∧ Sz j v ∧ Sz j r ∧ j ≤ 400 ∧
  ∀ (p : Addr) (H' : Hp), Same H H' → H p = none → H' p = some (.tup (rat (v / (1 + r * g)))) → Q (.ref p) H'
def spFair (K : PySem.W.Frag) : Sp := fun vs H Q _ => ∃ (p : Addr) (n : Int), vs = [.ref p] ∧ Pot H p n ∧ n < 900000 ∧
  ∀ (a : Addr) (H' : Hp) (q : Rat), But p H H' → Pot H' p (n + 5) → H a = none → SqT K H' a (rat q) → 0 ≤ q → Sz 20 q → Q (.ref a) H'
def spNear (K : PySem.W.Frag) : Sp := fun vs H Q _ => ∃ (p s : Addr) (n : Int) (v r : Rat) (j : Nat), vs = [.ref p, .ref s] ∧ Pot H p n ∧ n < 800000 ∧ PairAt K H s v r ∧ Sz j v ∧ Sz j r ∧ 20 ≤ j ∧ j ≤ 200 ∧
  ∀ (a : Addr) (H' : Hp) (w u : Rat), But p H H' → Pot H' p (n + 20) → PairAt K H' a w u → Sz (j + j) w → Sz (j + j) u → Q (.ref a) H'
def spIsStrong (K : PySem.W.Frag) : Sp := fun vs H Q _ => ∃ (s t : Addr) (v r w u : Rat) (j : Nat), vs = [.ref s, .ref t] ∧ PairAt K H s v r ∧ PairAt K H t w u ∧ Sz j v ∧ Sz j r ∧ Sz j w ∧ Sz j u ∧ j ≤ 400 ∧
  ∀ H', Same H H' → Q (.bl (strong v r w u)) H'
/-- loads beside which one reads less than other -/
def Weak (K : PySem.W.Frag) (H : Hp) (v r w u : Rat) (x : V) : Prop := ∃ a g, x = .ref a ∧ SqT K H a (rat g) ∧ 0 ≤ g ∧ Sz 40 g ∧ v / (1 + r * g) < w / (1 + u * g)
theorem Weak.same {K : PySem.W.Frag} {H H' : Hp} {v r w u : Rat} {x : V} (h : Weak K H v r w u x) (S : Same H H') : Weak K H' v r w u x := by
  obtain ⟨a, g, e, h1, h2⟩ := h
  exact ⟨a, g, e, S.seqT h1, h2⟩
theorem Weak.butL {K : PySem.W.Frag} {H H' : Hp} {p : Addr} {ys : List V} {v r w u : Rat} {x : V} (h : Weak K H v r w u x) (hp : H p = some (.lst ys)) (B : But p H H') : Weak K H' v r w u x := by
  obtain ⟨a, g, e, h1, h2⟩ := h
  exact ⟨a, g, e, seqT_but hp B h1, h2⟩
theorem rat_int (i : Int) : [V.int i, V.int 1] = rat (i : Rat) := rfl
theorem sz_int {i : Int} {k : Nat} (h : i.natAbs < 2 ^ k) (hk : 0 < k) : Sz k (i : Rat) := ⟨h, Nat.one_lt_pow (by omega) (by decide)⟩
def spWeakLoads (K : PySem.W.Frag) : Sp := fun vs H Q _ => ∃ (s t : Addr) (v r w u : Rat) (j : Nat), vs = [.ref s, .ref t] ∧ PairAt K H s v r ∧ PairAt K H t w u ∧ Sz j v ∧ Sz j r ∧ Sz j w ∧ Sz j u ∧ j ≤ 100 ∧
  ∀ (l : Addr) (H' : Hp) (xs : List V), Same H H' → H l = none → H' l = some (.lst xs) → xs.length ≤ 100 → (∀ x ∈ xs, Weak K H' v r w u x) → Q (.ref l) H'
def spTwo (K : PySem.W.Frag) : Sp := fun vs H Q _ => ∃ (p s t : Addr) (n : Int) (v r w u : Rat), vs = [.ref p, .ref s, .ref t] ∧ Pot H p n ∧ n < 800000 ∧ PairAt K H s v r ∧ PairAt K H t w u ∧ Sz 100 v ∧ Sz 100 r ∧ Sz 100 w ∧ Sz 100 u ∧
  ∀ H', But p H H' → Pot H' p (n + 20) → Q (.bl true) H'
/-- one round of a law: the pot may be drawn from, the answer is True -/
def spRound (m : Int) : Sp := fun vs H Q _ => ∃ (p : Addr) (n : Int), vs = [.ref p] ∧ Pot H p n ∧ n < 100000 ∧ ∀ H', But p H H' → Pot H' p (n + m) → Q (.bl true) H'
def spLaw (K : PySem.W.Frag) : Sp := fun vs H Q _ => ∃ (a : Addr) (ns : List Int), vs = [.ref a] ∧ SqL K H a (ns.map V.int) ∧ ns.length ≤ 63 ∧ ∀ H', Q (.bl true) H'
theorem strong_self {v r : Rat} : strong v r v r = true := by
  unfold strong
  rw [decide_eq_true (Rat.le_refl (a := v)), decide_eq_true (Rat.le_refl (a := v * r))]
  rfl
theorem strong_iff {v r w u : Rat} : strong v r w u = true ↔ w ≤ v ∧ w * r ≤ v * u := by
  unfold strong
  rw [Bool.and_eq_true, decide_eq_true_iff, decide_eq_true_iff]
theorem div_mul_self {p q : Rat} (hq : 0 < q) : p / q * q = p := by
  have : q ≠ 0 := fun z => by rw [z] at hq; exact absurd hq (by decide)
  grind
theorem cross_lt {a b c d : Rat} (hb : 0 < b) (hd : 0 < d) : a / b < c / d ↔ a * d < c * b := by
  rw [Rat.div_lt_iff hb]
  have e : c / d * b = c * b / d := by grind
  rw [e, Rat.lt_div_iff hd]
theorem cross_eq {a b c d : Rat} (hb : 0 < b) (hd : 0 < d) : a / b = c / d ↔ a * d = c * b := by
  have h1 : b ≠ 0 := fun z => by rw [z] at hb; exact absurd hb (by decide)
  have h2 : d ≠ 0 := fun z => by rw [z] at hd; exact absurd hd (by decide)
  grind
theorem due_read {v r w u g : Rat} (h : strong v r w u = true) (hr : 0 ≤ r) (hu : 0 ≤ u) (hg : 0 ≤ g) : ¬ v / (1 + r * g) < w / (1 + u * g) := by
  obtain ⟨h1, h2⟩ := strong_iff.mp h
  rw [cross_lt (one_pos hr hg) (one_pos hu hg), Rat.not_lt]
  have := Rat.mul_le_mul_of_nonneg_right h2 hg
  have e1 : w * (1 + r * g) = w + w * r * g := by grind
  have e2 : v * (1 + u * g) = v + v * u * g := by grind
  rw [e1, e2]
  grind
theorem both_iff {v r w u : Rat} (h : strong v r w u = true) (hr : 0 ≤ r) (hu : 0 ≤ u) : strong w u v r = (decide (v / (1 + r * 0) = w / (1 + u * 0)) && (decide (v / (1 + r * 1) = w / (1 + u * 1)) && decide (v / (1 + r * 2) = w / (1 + u * 2)))) := by
  obtain ⟨h1, h2⟩ := strong_iff.mp h
  have c0 := cross_eq (a := v) (c := w) (one_pos hr (g := 0) (by decide)) (one_pos hu (g := 0) (by decide))
  have c1 := cross_eq (a := v) (c := w) (one_pos hr (g := 1) (by decide)) (one_pos hu (g := 1) (by decide))
  have c2 := cross_eq (a := v) (c := w) (one_pos hr (g := 2) (by decide)) (one_pos hu (g := 2) (by decide))
  rw [Bool.eq_iff_iff, strong_iff, Bool.and_eq_true, Bool.and_eq_true, decide_eq_true_iff, decide_eq_true_iff, decide_eq_true_iff, c0, c1, c2]
  constructor
  · rintro ⟨h3, h4⟩
    have e1 := Rat.le_antisymm h1 h3
    have e2 := Rat.le_antisymm h2 h4
    refine ⟨?_, ?_, ?_⟩ <;> grind
  · rintro ⟨h3, h4, -⟩
    have e1 : v = w := by grind
    have e2 : v * u = w * r := by grind
    exact ⟨by rw [e1]; exact Rat.le_refl, by rw [e2]; exact Rat.le_refl⟩
theorem rat_inj {p q : Rat} : (decide (p.num = q.num) && decide ((p.den : Int) = (q.den : Int))) = decide (p = q) := by
  rw [Bool.eq_iff_iff, Bool.and_eq_true, decide_eq_true_iff, decide_eq_true_iff, decide_eq_true_iff]
  constructor
  · rintro ⟨h1, h2⟩
    exact Rat.ext h1 (by exact_mod_cast h2)
  · rintro rfl
    exact ⟨rfl, rfl⟩
theorem i_eqBl {H : Hp} {Q : VK} {a b : Bool} (h : Q (.bl (a == b)) H) : rEq (.bl a) (.bl b) H Q := ⟨rfl, by
  have e : decide (V.bl a = V.bl b) = (a == b) := by cases a <;> cases b <;> decide
  rw [e]
  exact h⟩
theorem i_eqDR {K : PySem.W.Frag} {H : Hp} {Q : VK} {a b : Addr} {p q : Rat} (ha : SqT K H a (rat p)) (hb : SqT K H b (rat q)) (h : Q (.bl (decide (p = q))) H) : rEqD K (.ref a) (.ref b) H Q := by
  refine ⟨.tuple [.int p.num, .int p.den], .tuple [.int q.num, .int q.den], .tup ha (.cons (.int _) (.cons (.int _) .nil)), .tup hb (.cons (.int _) (.cons (.int _) .nil)), rfl, rfl, ?_⟩
  have e : PyData.eqv (.tuple [.int p.num, .int p.den]) (.tuple [.int q.num, .int q.den]) = decide (p = q) := by
    rw [← rat_inj]
    simp [PyData.eqv, PyData.eqvAll]
    rfl
  rw [e]
  exact h
theorem i_srcCmp {K : PySem.W.Frag} {C : Addr} {H : Hp} {Q : VK} {f : Rat → Rat → Rat → Rat → Bool} {s t : Addr} {v r w u : Rat} {j : Nat} (A1 : SrcAt K C H s v r) (A2 : SrcAt K C H t w u) (zv : Sz j v) (zr : Sz j r) (zw : Sz j w) (zu : Sz j u) (hj : j ≤ 800)
    (k : ∀ H', Same H H' → Q (.bl (f v r w u)) H') : rOwn C (spSrcCmp K C f) (.ref s) (.ref t) H Q := by
  obtain ⟨d1, a1, b1, e1, _⟩ := id A1
  obtain ⟨d2, a2, b2, e2, _⟩ := id A2
  exact ⟨_, _, _, _, _, _, rfl, rfl, e1, e2, _, _, _, _, _, _, j, rfl, A1, A2, zv, zr, zw, zu, hj, k⟩
theorem strong_trans {v1 r1 v2 r2 v3 r3 : Rat} (h12 : strong v1 r1 v2 r2 = true) (h23 : strong v2 r2 v3 r3 = true) (p1 : 0 ≤ v1) (p2 : 0 ≤ v2) (p3 : 0 ≤ v3) (q3 : 0 ≤ r3) : strong v1 r1 v3 r3 = true := by
  obtain ⟨a1, a2⟩ := strong_iff.mp h12
  obtain ⟨b1, b2⟩ := strong_iff.mp h23
  refine strong_iff.mpr ⟨Rat.le_trans b1 a1, ?_⟩
  rcases Rat.le_iff_lt_or_eq.mp p2 with hp | hz
  · refine Rat.not_lt.mp fun z => ?_
    have c1 := Rat.mul_le_mul_of_nonneg_right a2 p3
    have c2 := Rat.mul_le_mul_of_nonneg_right b2 p1
    have c3 := Rat.mul_lt_mul_of_pos_right z hp
    grind
  · have e : v3 = 0 := Rat.le_antisymm (by rw [← hz] at b1; exact b1) p3
    rw [e, Rat.zero_mul]
    exact Rat.mul_nonneg p1 q3
theorem SrcAt.butL {K : PySem.W.Frag} {C : Addr} {H H' : Hp} {s p : Addr} {v r : Rat} {ys : List V} (h : SrcAt K C H s v r) (hp : H p = some (.lst ys)) (B : But p H H') : SrcAt K C H' s v r := by
  obtain ⟨dx, a, b, h1, h2, h3, h4⟩ := h
  exact ⟨dx, a, b, B _ _ (fun e => by rw [e, hp] at h1; cases h1) h1, seqT_but hp B h2, seqT_but hp B h3, h4⟩
theorem Pot.butA {H H' : Hp} {p A : Addr} {n : Int} (hP : Pot H p n) (h : p ≠ A) (B : But A H H') : Pot H' p n := by
  obtain ⟨x, y, z, hp, hh⟩ := hP
  exact ⟨x, y, z, B _ _ h hp, hh⟩
theorem Pot.ne {H : Hp} {p A : Addr} {n : Int} (hP : Pot H p n) (h : H A = none) : p ≠ A := by
  obtain ⟨_, _, _, hp, _⟩ := hP
  exact ne_of_none hp h
theorem rgV_at {j i : Nat} {x : V} (h : (rgV 0 j)[i]? = some x) : x = .int i ∧ i < j := by
  unfold rgV at h
  rw [List.getElem?_map] at h
  have e : ((j : Int) - 0).toNat = j := by omega
  rw [e] at h
  rcases Nat.lt_or_ge i j with hi | hi
  · rw [List.getElem?_range hi] at h
    have h2 : V.int (0 + (i : Int)) = x := Option.some.inj h
    rw [← h2, Int.zero_add]
    exact ⟨rfl, hi⟩
  · rw [List.getElem?_eq_none (by rw [List.length_range]; exact hi)] at h
    cases h
end My

/-! own layer, 6: what the written part holds, read off once -/
namespace My
open PySem PySem.Spec PyProof.Rows L2
/-- a def: where its function stands, what it is -/
structure Df where
  adr : PySem.W.Frag → Addr
  name : Str
  qual : Str
  st : Stmt
def Df.val (d : Df) : He.FnW := some (d.name, d.qual, defArgs d.st, .stmts (defBody d.st), defScope d.st, mainGlobals, [], builtinsNs)
def dfV (K : PySem.W.Frag) (d : Df) : He.FnW := match K.lookup (d.adr K) with
  | some ⟨_, _, .func fd, _⟩ => some (fd.name, fd.qualname, fd.params, fd.body, fd.scope, fd.globals, fd.closure, fd.builtins)
  | _ => none
def dfB (K : PySem.W.Frag) (d : Df) : Bool := PySem.W.keepIn K (.ref (d.adr K)) && match K.lookup (d.adr K) with
  | some ⟨_, _, .func fd, _⟩ => PySem.W.codeIn K fd.code d.qual && match fd.defaults with
    | .none => true
    | _ => false
  | _ => false
abbrev HV : Type := Bool × List He.FnW
def obsK (ex : PySem.W.Frag → Bool) (ds : List Df) (K : PySem.W.Frag) : HV := (ex K && ds.all (dfB K), ds.map (dfV K))
def valK (ds : List Df) : HV := (true, ds.map Df.val)
def frK (n : Nat) (g : Addr → Option Obj) : PySem.W.Frag := He.frT g (He.asD g n)
def hook (n : Nat) (ex : PySem.W.Frag → Bool) (ds : List Df) : PySem.W.Hook where
  α := HV
  obs s := obsK ex ds (frK n s.heap.get?)
  val _ := valK ds
  says _ h := ∃ K : PySem.W.Frag, K.In h ∧ obsK ex ds K = valK ds
  of _ s e := ⟨_, He.frT_in, e⟩
  keeps _ _ _ := fun ⟨K, i, c⟩ k => ⟨K, fun a o e => k a o (i a o e), c⟩
def obT (n : Nat) (ex : PySem.W.Frag → Bool) (ds : List Df) (s : PySem.W.SharedT) : HV := obsK ex ds (frK n (HandSHeadRun.getT s))
theorem obT_eq {n : Nat} {ex : PySem.W.Frag → Bool} {ds : List Df} (s : PySem.W.SharedT) : obT n ex ds s = (hook n ex ds).obs s.abs := by
  unfold obT
  rw [funext (HandSHeadRun.getT_eq s)]
  rfl
section
variable {K : PySem.W.Frag} {ex : PySem.W.Frag → Bool} {ds : List Df} {d : Df}
theorem says_ex (c : obsK ex ds K = valK ds) : ex K = true := (He.ba (congrArg Prod.fst c)).1
theorem says_fun (c : obsK ex ds K = valK ds) (i : Nat) (h : ds[i]? = some d) : Fun K d.name d.qual d.st (d.adr K) (fdOf K (d.adr K)) := by
  have e1 : dfB K d = true := List.all_eq_true.mp (He.ba (congrArg Prod.fst c)).2 d (List.mem_of_getElem? h)
  have e2 : dfV K d = d.val := by
    have e := congrArg (fun z : HV => z.2[i]?) c
    have e : (ds.map (dfV K))[i]? = (ds.map Df.val)[i]? := e
    rw [List.getElem?_map, List.getElem?_map, h] at e
    exact Option.some.inj e
  unfold dfB at e1
  obtain ⟨k1, k2⟩ := He.ba e1
  unfold dfV at e2
  split at e2
  · rename_i oc od fd osl hl
    rw [hl] at k2
    obtain ⟨k3, k4⟩ := He.ba k2
    have hd : fd.defaults = .none := by
      revert k4
      cases fd.defaults <;> intro k4 <;> first | rfl | cases k4
    have e3 := Option.some.inj e2
    simp only [Prod.mk.injEq] at e3
    obtain ⟨f1, f2, f3, f4, f5, f6, f7, f8⟩ := e3
    have ef : fdOf K (d.adr K) = fd := by
      unfold fdOf
      rw [hl]
    rw [ef]
    refine ⟨⟨oc, od, fd.kwdefaults, fd.doc, fd.pyModule, fd.annotations, fd.code, fd.closureTuple, osl, ?_, hl, k3⟩, k1⟩
    cases fd
    simp only at f1 f2 f3 f4 f5 f6 f7 f8 hd
    subst f1 f2 f3 f4 f5 f6 f7 f8 hd
    rfl
  · cases e2
/-- a def without defaults: by its written arguments -/
theorem fun_binds {x qual : Str} {st : Stmt} {f : Addr} {fd : FuncData} {ps : List Str} (F : Fun K x qual st f fd)
    (h : ∀ (kV doc pm : Value) (an : Option Addr) (cdv ct : Value) (us : List Value), us.length = ps.length → bindArgs (PySem.W.fnOf x qual (defArgs st) (defBody st) (defScope st) Value.none kV doc pm an cdv ct) { pos := us } = pure (ps.zip us)) : L2.Binds K fd ps [] := by
  obtain ⟨oc, od, kV, doc, pm, an, cdv, ct, osl, e, hl, hc⟩ := F.ex
  subst e
  exact Binds.all (h kV doc pm an cdv ct)
/-! what is asked beside He's facts -/
def insB (K : PySem.W.Frag) (x : Str) : Bool := He.eqO (PySem.W.findIn K (.ref (He.ga K x)) "__class__") (some (some (.builtin "object.__class__"))) && (He.eqO (PySem.W.specialIn K (.builtin "object.__class__") "__get__") (some (some (.builtin "getset_descriptor.__get__"))) &&
  (decide (PySem.W.takesIn K (.builtin "object.__class__") = some true) && decide (PySem.W.mroIn K (He.ga K x) (.type "object") = some true)))
theorem insB_ok {x : Str} (h : insB K x = true) : InsC K (He.ga K x) := by
  obtain ⟨h1, h⟩ := He.ba h
  obtain ⟨h2, h⟩ := He.ba h
  obtain ⟨h3, h4⟩ := He.ba h
  exact ⟨He.eqO_ok h1, He.eqO_ok h2, of_decide_eq_true h3, of_decide_eq_true h4⟩
def propB (K : PySem.W.Frag) (x m : Str) : Bool := He.eqO (PySem.W.findIn K (.ref (He.ga K x)) m) (some (some (.ref (He.ma K (He.ga K x) m)))) && (He.eqO (PySem.W.specialIn K (.ref (He.ma K (He.ga K x) m)) "__get__") (some (some (.builtin "property.__get__"))) &&
  (decide (PySem.W.takesIn K (.ref (He.ma K (He.ga K x) m)) = some true) && match PySem.W.recIn K (He.ma K (He.ga K x) m) "property" with
    | some (.ref _ :: _) => true
    | _ => false))
theorem propB_ok {x m : Str} (h : propB K x m = true) : PropOf K (He.ga K x) m (He.ma K (He.ga K x) m) (gtOf K (He.ma K (He.ga K x) m)) := by
  obtain ⟨h1, h⟩ := He.ba h
  obtain ⟨h2, h⟩ := He.ba h
  obtain ⟨h3, h4⟩ := He.ba h
  refine ⟨He.eqO_ok h1, He.eqO_ok h2, of_decide_eq_true h3, ?_⟩
  unfold gtOf
  split at h4
  · rename_i g rest e
    rw [e]
    exact ⟨rest, rfl⟩
  · cases h4
def bltB (K : PySem.W.Frag) (x : Str) (b : String) : Bool := He.eqO (PySem.W.nsIn K mainGlobals x) (some (some (.builtin b)))
theorem bltB_ok {h : Heap} {mg : Str → Option Value} (X : K.In h) (G : h.Ns mainGlobals mg) {x : Str} {b : String} (c : bltB K x b = true) : mg x = some (.builtin b) := PySem.W.mg_of X G (He.eqO_ok c)
theorem all_get {α : Type} {p : α → Bool} {l : List α} (h : l.all p = true) (i : Nat) {x : α} (e : l[i]? = some x) : p x = true := List.all_eq_true.mp h x (List.mem_of_getElem? e)
theorem gfn_of {mg : Str → Option Value} {h : Heap} {x : Str} {st : Stmt} {ps : List Str} (X : K.In h) (G : h.Ns mainGlobals mg) (c : He.Fa.ok K (.glo x) = true) (F : Fun K x x st (He.ga K x) (fdOf K (He.ga K x)))
    (b : ∀ (kV doc pm : Value) (an : Option Addr) (cdv ct : Value) (us : List Value), us.length = ps.length → bindArgs (PySem.W.fnOf x x (defArgs st) (defBody st) (defScope st) Value.none kV doc pm an cdv ct) { pos := us } = pure (ps.zip us)) : GFn K mg x st ps :=
  ⟨He.glo_ok X G c, F, fun_binds F b⟩
theorem gme_of {x m qual : Str} {st : Stmt} {ps : List Str} (c : He.Fa.ok K (.meth x m) = true) (F : Fun K m qual st (He.ma K (He.ga K x) m) (fdOf K (He.ma K (He.ga K x) m)))
    (b : ∀ (kV doc pm : Value) (an : Option Addr) (cdv ct : Value) (us : List Value), us.length = ps.length → bindArgs (PySem.W.fnOf m qual (defArgs st) (defBody st) (defScope st) Value.none kV doc pm an cdv ct) { pos := us } = pure (ps.zip us)) : GMe K (He.ga K x) m qual st ps :=
  ⟨He.meth_ok c, F, fun_binds F b⟩
theorem gop_of {x m qual : Str} {st : Stmt} (c : He.Fa.ok K (.meth x m) = true) (F : Fun K m qual st (He.ma K (He.ga K x) m) (fdOf K (He.ma K (He.ga K x) m)))
    (b : ∀ (kV doc pm : Value) (an : Option Addr) (cdv ct : Value) (us : List Value), us.length = 2 → bindArgs (PySem.W.fnOf m qual (defArgs st) (defBody st) (defScope st) Value.none kV doc pm an cdv ct) { pos := us } = pure ((["self", "other"] : List Str).zip us)) : GOp K (He.ga K x) m qual st :=
  ⟨(He.meth_ok c).at_, (He.meth_ok c).fn, F, fun_binds F b⟩
theorem gpr_of {x m qual : Str} {st : Stmt} (c : propB K x m = true) (F : Fun K m qual st (gtOf K (He.ma K (He.ga K x) m)) (fdOf K (gtOf K (He.ma K (He.ga K x) m))))
    (b : ∀ (kV doc pm : Value) (an : Option Addr) (cdv ct : Value) (us : List Value), us.length = 1 → bindArgs (PySem.W.fnOf m qual (defArgs st) (defBody st) (defScope st) Value.none kV doc pm an cdv ct) { pos := us } = pure ((["self"] : List Str).zip us)) : GPr K (He.ga K x) m qual st :=
  ⟨propB_ok c, F, fun_binds F b⟩
theorem gmk_of {mg : Str → Option Value} {h : Heap} {x : Str} (X : K.In h) (G : h.Ns mainGlobals mg) (c : He.Fa.ok K (.glo x) = true) (m : He.Fa.ok K (.mkr x) = true) : GMk K mg x := ⟨He.glo_ok X G c, He.mkr_ok m⟩
end
end My

local macro_rules | `(tactic| walk_at "h") => `(tactic| first
  | with_reducible refine My.i_seq ?_ | with_reducible refine My.i_asg ?_ | with_reducible refine My.i_gname ?_ | ((with_reducible refine' My.i_var ?e ?_); (case e => exact rfl)) | with_reducible refine My.i_c ?_ | with_reducible refine My.i_op ?_ | with_reducible refine My.i_un ?_
  | with_reducible refine My.i_I0 ?_ | with_reducible refine My.i_call ?_ | with_reducible refine My.i_cb ?_ | with_reducible refine My.i_cons ?_ | with_reducible refine My.i_nil ?_ | with_reducible refine My.i_ret ?_ | with_reducible refine My.i_retN ?_ | with_reducible refine My.i_drop ?_
  | with_reducible refine My.i_tup ?_ | with_reducible refine My.i_lst ?_ | with_reducible refine My.i_ife ?_ | with_reducible refine My.i_if ?_ | with_reducible refine My.i_test ?_ | with_reducible refine My.i_tB ?_ | with_reducible refine My.i_bl ?_ | with_reducible refine My.i_blv ?_
  | with_reducible refine My.i_not ?_ | with_reducible refine My.i_and ?_ | with_reducible refine My.i_or ?_ | with_reducible refine My.i_andV ?_ | with_reducible refine My.i_orV ?_ | with_reducible refine My.i_notV ?_ | with_reducible refine My.i_U ?_ | with_reducible refine My.i_next ?_
  | with_reducible refine My.i_par ?_ | with_reducible refine My.i_two ?_ | with_reducible refine My.i_int1 ?_ | with_reducible refine My.i_int1b ?_ | with_reducible refine My.i_abs ?_ | with_reducible refine My.i_max2 ?_ | with_reducible refine My.i_min2 ?_
  | ((with_reducible refine My.i_szT ?z ?_); (case z => exact Nat.le_of_ble_eq_true rfl); intro _ _ _ _ _) | ((with_reducible refine My.i_szL ?z ?_); (case z => exact Nat.le_of_ble_eq_true rfl); intro _ _ _ _ _)
  | with_reducible refine My.i_sub ?_ | with_reducible refine My.i_lstRg ?_ | with_reducible refine My.i_rg1 ?_ | with_reducible refine My.i_in ?_ | ((with_reducible refine' My.i_setL ?l ?e ?_); (case l => walk_at "look"); (case e => exact rfl); intro _ _ _) | with_reducible refine My.i_bm ?_ | with_reducible refine My.i_bm0 ?_
  | ((with_reducible refine' My.i_tyL (L2.SqL.of ?l) ?_); (case l => walk_at "look")) | ((with_reducible refine' My.i_app ?l ?e ?_); (case l => walk_at "look"); (case e => exact Nat.le_of_ble_eq_true rfl); intro _ _ _) | with_reducible refine L2.iteT ?_ | with_reducible refine L2.iteF ?_ | with_reducible refine My.ite_nt ?_ | with_reducible refine My.ite_nf ?_ | with_reducible refine My.i_gcd ?_
  | ((with_reducible refine' My.i_isiI ?e ?_); (case e => exact (by decide +kernel : L2.kitB _ _ = some _))) | with_reducible refine My.i_gcons ?_ | with_reducible refine My.i_gnil ?_
  | ((with_reducible refine' My.i_lenT ?l ?_); (case l => walk_at "lookT")) | ((with_reducible refine' My.i_lenL (L2.SqL.of ?l) ?_); (case l => walk_at "look")) | ((with_reducible refine' My.i_tupg ?l ?e ?_); (case l => walk_at "lookT"); (case e => rfl)) | with_reducible refine My.i_fld0 ?_ | with_reducible refine My.i_prop ?_ | with_reducible refine My.i_meth ?_ | with_reducible refine My.i_make ?_ | with_reducible refine My.i_sfld ?_
  | ((with_reducible refine' My.i_fv ?h ?c ?n ?_); (case h => walk_at "look"); (case c => assumption); (case n => assumption)) | ((with_reducible refine' My.i_fo ?h ?c ?n ?_); (case h => walk_at "look"); (case c => assumption); (case n => assumption))
  | ((with_reducible show My.PropQ _ _ _ _ _ _ _); (first | ((refine' My.i_pv ?h ?_); (case h => walk_at "look")) | ((refine' My.i_po ?h ?_); (case h => walk_at "look")))) | ((with_reducible refine' My.i_me ?h ?a ?b ?_); (case h => walk_at "look"); (case a => decide +kernel); (case b => decide +kernel)) | with_reducible refine My.i_lc ?_ | with_reducible refine My.i_for ?_ | with_reducible refine My.i_rng ?_ | with_reducible refine My.i_rngv (by decide) (by decide) ?_ | with_reducible refine My.i_wl ?_ | with_reducible refine My.i_wt ?_ | with_reducible refine My.i_par3 ?_ | with_reducible refine My.i_three ?_
  | ((with_reducible refine' My.i_wtv ?l ?_); (case l => walk_at "lookT")) | ((with_reducible refine' My.i_wlv (L2.SqL.of ?l) ?_); (case l => walk_at "look")) | walk_at "ix" | ((with_reducible refine' My.i_I ?c ?_); (case c => walk_at "side")))
local macro_rules | `(tactic| walk_at "side") => `(tactic| first | assumption | ((show (0 : Int) < _); omega) | (exact My.mulZ (by assumption) (by assumption) (by omega)) | (exact My.divS (by omega) (by omega)) | (exact My.mulS (by omega) (by omega) (by omega) (by omega)) | (exact My.powL (by decide +kernel)) | (exact My.pow3S (by omega) (by omega)))
local macro_rules | `(tactic| walk_at "look") => `(tactic| first | assumption | (apply (‹L2.Same _ _› : L2.Same _ _) _ _; walk_at "look") | ((refine' (‹My.But _ _ _› _ _ ?n ?l); (case n => walk_at "ne")); (case l => walk_at "look")))
local macro_rules | `(tactic| walk_at "ne") => `(tactic| first | assumption | (refine Ne.symm ?_; assumption) | exact L2.ne_of_none (by walk_at "lookS") (by assumption) | exact (L2.ne_of_none (by walk_at "lookS") (by assumption)).symm | exact L2.ne_of (by walk_at "lookS") (by walk_at "lookS") (by intro z; cases z))
local macro_rules | `(tactic| walk_at "lookS") => `(tactic| first | assumption | (apply (‹L2.Same _ _› : L2.Same _ _) _ _; walk_at "lookS"))
local macro_rules | `(tactic| walk_at "ix") => `(tactic| first
  | ((with_reducible refine' My.i_ixsL (L2.SqL.of ?l) ?e ?_); (case l => walk_at "look"); (case e => exact rfl)) | ((with_reducible refine' My.i_ixsT ?l ?e ?_); (case l => walk_at "lookT"); (case e => exact rfl)))
local macro_rules | `(tactic| walk_at "lookT") => `(tactic| first | assumption | exact L2.SqT.of (by walk_at "look") | (apply L2.Same.seqT ‹L2.Same _ _›; walk_at "lookT") | (apply My.Pot.but ‹My.Pot _ _ _› ‹My.But _ _ _›; walk_at "lookT"))
local macro_rules | `(tactic| walk_at "len") => `(tactic| (intro vs H Q E h; first | (obtain ⟨_, e, _⟩ := h; subst e; rfl) | (obtain ⟨_, _, e, _⟩ := h; subst e; rfl) | (obtain ⟨_, _, _, e, _⟩ := h; subst e; rfl) | (obtain ⟨_, _, _, _, e, _⟩ := h; subst e; rfl) | (obtain ⟨_, _, _, _, _, e, _⟩ := h; subst e; rfl) | (obtain ⟨_, _, _, _, _, _, e, _⟩ := h; subst e; rfl) | (obtain ⟨_, _, _, _, _, _, _, e, _⟩ := h; subst e; rfl) | (obtain ⟨_, _, _, _, _, _, _, _, e, _⟩ := h; subst e; rfl) | (obtain ⟨_, _, _, _, _, _, _, _, _, e, _⟩ := h; subst e; rfl) | (obtain ⟨_, _, _, _, _, _, _, _, _, _, e, _⟩ := h; subst e; rfl) | (obtain ⟨_, _, _, _, _, _, _, _, _, _, _, e, _⟩ := h; subst e; rfl) | (obtain ⟨_, _, _, _, _, _, _, _, _, _, _, _, e, _⟩ := h; subst e; rfl) | (obtain ⟨_, _, _, _, _, _, _, _, _, _, _, _, _, e, _⟩ := h; subst e; rfl)))
local macro_rules | `(tactic| walk_at "but") => `(tactic| first | exact My.But.refl _ | assumption | (refine My.But.trans ?_ ‹My.But _ _ _›; walk_at "but") | (refine My.But.trans ?_ (L2.Same.but ‹L2.Same _ _›); walk_at "but"))
local macro_rules | `(tactic| walk_at "same") => `(tactic| first | exact L2.Same.refl _ | assumption | (refine L2.Same.trans ?_ ‹L2.Same _ _›; walk_at "same"))

namespace Lw
open PySem PySem.Spec PyProof.Rows L2 My
def top (i : Nat) : Stmt := PySem.Challenge.pw_rangehunt_k03_whole_sources_beside_all_l.main.body.getD i (.Pass ⟨0, 0, 0, 0⟩)
abbrev s__wall : Stmt := top 1
abbrev s_is_integer : Stmt := top 3
abbrev s_is_ratio : Stmt := top 4
abbrev s_ratio : Stmt := top 5
abbrev s_plus : Stmt := top 6
abbrev s_times : Stmt := top 7
abbrev s_over : Stmt := top 8
abbrev s_at_least : Stmt := top 9
abbrev s_weakening : Stmt := top 17
abbrev s_repeated : Stmt := top 18
abbrev s_covers : Stmt := top 19
abbrev s__law_pot : Stmt := top 22
abbrev s__law_take : Stmt := top 23
abbrev s__law_of : Stmt := top 24
abbrev s__law_cells : Stmt := top 25
abbrev s__law_common : Stmt := top 26
abbrev s__law_pair : Stmt := top 27
abbrev s__law_plus : Stmt := top 28
abbrev s__law_times : Stmt := top 29
abbrev s__law_over : Stmt := top 30
abbrev s__law_is_less : Stmt := top 31
abbrev s__law_read : Stmt := top 32
abbrev s__law_fair : Stmt := top 33
abbrev s__law_near : Stmt := top 34
abbrev s__law_is_strong : Stmt := top 35
abbrev s__law_weak_loads : Stmt := top 36
abbrev s__law_two_right : Stmt := top 37
abbrev s__law_right : Stmt := top 38
abbrev s_law : Stmt := top 39
abbrev s_MeterError___init__ : Stmt := inClass (top 11) 0
abbrev s_Source___init__ : Stmt := inClass (top 20) 0
abbrev s_Source_volts : Stmt := inClass (top 20) 1
abbrev s_Source_ohms : Stmt := inClass (top 20) 2
abbrev s_Source_at : Stmt := inClass (top 20) 3
abbrev s_Source_under : Stmt := inClass (top 20) 4
abbrev s_Source___add__ : Stmt := inClass (top 20) 5
abbrev s_Source___and__ : Stmt := inClass (top 20) 6
abbrev s_Source___mul__ : Stmt := inClass (top 20) 7
abbrev s_Source___rmul__ : Stmt := inClass (top 20) 8
abbrev s_Source___ge__ : Stmt := inClass (top 20) 9
abbrev s_Source___le__ : Stmt := inClass (top 20) 10
abbrev s_Source___eq__ : Stmt := inClass (top 20) 11
structure Tx (K : PySem.W.Frag) (mg : Str → Option Value) : Prop where
  f__wall : GFn K mg "_wall" s__wall ["k"]
  f_is_integer : GFn K mg "is_integer" s_is_integer ["value"]
  f_is_ratio : GFn K mg "is_ratio" s_is_ratio ["value"]
  f_ratio : GFn K mg "ratio" s_ratio ["above", "below"]
  f_plus : GFn K mg "plus" s_plus ["one", "other"]
  f_times : GFn K mg "times" s_times ["one", "other"]
  f_over : GFn K mg "over" s_over ["one", "other"]
  f_at_least : GFn K mg "at_least" s_at_least ["one", "other"]
  f_weakening : GFn K mg "weakening" s_weakening ["ohms", "load"]
  f_repeated : GFn K mg "repeated" s_repeated ["source", "many"]
  f_covers : GFn K mg "covers" s_covers ["one", "other"]
  f__law_pot : GFn K mg "_law_pot" s__law_pot ["_law_script", "_law_place"]
  f__law_take : GFn K mg "_law_take" s__law_take ["_law_pot_here", "_law_upto"]
  f__law_of : GFn K mg "_law_of" s__law_of ["_law_pot_here", "_law_some"]
  f__law_cells : GFn K mg "_law_cells" s__law_cells ["_law_script", "_law_most"]
  f__law_common : GFn K mg "_law_common" s__law_common ["_law_one", "_law_other"]
  f__law_pair : GFn K mg "_law_pair" s__law_pair ["_law_above", "_law_under"]
  f__law_plus : GFn K mg "_law_plus" s__law_plus ["_law_one", "_law_other"]
  f__law_times : GFn K mg "_law_times" s__law_times ["_law_one", "_law_other"]
  f__law_over : GFn K mg "_law_over" s__law_over ["_law_one", "_law_other"]
  f__law_is_less : GFn K mg "_law_is_less" s__law_is_less ["_law_one", "_law_other"]
  f__law_read : GFn K mg "_law_read" s__law_read ["_law_heft", "_law_source"]
  f__law_fair : GFn K mg "_law_fair" s__law_fair ["_law_pot_here"]
  f__law_near : GFn K mg "_law_near" s__law_near ["_law_pot_here", "_law_source"]
  f__law_is_strong : GFn K mg "_law_is_strong" s__law_is_strong ["_law_one", "_law_other"]
  f__law_weak_loads : GFn K mg "_law_weak_loads" s__law_weak_loads ["_law_one", "_law_other"]
  f__law_two_right : GFn K mg "_law_two_right" s__law_two_right ["_law_pot_here", "_law_first", "_law_second"]
  f__law_right : GFn K mg "_law_right" s__law_right ["_law_pot_here"]
  f_law : GFn K mg "law" s_law ["_law_script"]
  b_list : mg "list" = none
  b_any : mg "any" = none
  b_isinstance : mg "isinstance" = none
  b_int : mg "int" = none
  b_range : mg "range" = none
  b_abs : mg "abs" = none
  b_all : mg "all" = none
  b_bool : mg "bool" = none
  b_tuple : mg "tuple" = none
  b_len : mg "len" = none
  b_max : mg "max" = none
  b_repr : mg "repr" = none
  b_min : mg "min" = none
  b_gcd : mg "gcd" = some (.builtin "math.gcd")
  c_Source : Cls K (He.ga K "Source")
  k_Source : GMk K mg "Source"
  s_Source : PySem.W.selfFirst K (He.ga K "Source") = true
  a_Source__volts : NoAttr K (He.ga K "Source") "_volts"
  a_Source__ohms : NoAttr K (He.ga K "Source") "_ohms"
  d_Source___init__ : GMe K (He.ga K "Source") "__init__" "Source.__init__" s_Source___init__ ["self", "volts", "ohms"]
  p_Source_volts : GPr K (He.ga K "Source") "volts" "Source.volts" s_Source_volts
  p_Source_ohms : GPr K (He.ga K "Source") "ohms" "Source.ohms" s_Source_ohms
  d_Source_at : GMe K (He.ga K "Source") "at" "Source.at" s_Source_at ["self", "load"]
  d_Source_under : GMe K (He.ga K "Source") "under" "Source.under" s_Source_under ["self", "load"]
  o_Source___add__ : GOp K (He.ga K "Source") "__add__" "Source.__add__" s_Source___add__
  o_Source___and__ : GOp K (He.ga K "Source") "__and__" "Source.__and__" s_Source___and__
  o_Source___mul__ : GOp K (He.ga K "Source") "__mul__" "Source.__mul__" s_Source___mul__
  o_Source___rmul__ : GOp K (He.ga K "Source") "__rmul__" "Source.__rmul__" s_Source___rmul__
  o_Source___ge__ : GOp K (He.ga K "Source") "__ge__" "Source.__ge__" s_Source___ge__
  o_Source___le__ : GOp K (He.ga K "Source") "__le__" "Source.__le__" s_Source___le__
  o_Source___eq__ : GOp K (He.ga K "Source") "__eq__" "Source.__eq__" s_Source___eq__
  m_ONE : mg "ONE" = some (.ref (He.ga K "ONE"))
  t_ONE : ∀ H, SqT K H (He.ga K "ONE") [V.int 1, V.int 1]
  y_Source : InsC K (He.ga K "Source")
section
variable {P : Program} {w : World} {K : PySem.W.Frag} {mg : Str → Option Value} {base : Heap}
theorem sc_is_integer : FnScope ["value"] ["value"] (defScope s_is_integer) := ⟨rfl, rfl, rfl, by decide +kernel, rfl, by decide +kernel, by decide +kernel⟩
theorem ok_is_integer (T : Tx K mg) : FnAt P w K mg base CX0 1 (He.ga K "is_integer") ["value"] spIsInt := by
  refine T.f_is_integer.f.ok sc_is_integer ?_ (fun cdv A outer s H vs Q E hr h => ?_)
  · walk_at "len"
  · obtain ⟨i, rfl, k⟩ := h
    refine ⟨_, (pss_one (ps_ret (pe_and (pe_callB call_isi rfl T.b_isinstance (by decide +kernel) (pa_cons (pv 0) (pa_cons (pe_bltn (v := .ty "int") rfl T.b_int (by decide +kernel) rfl) pa_nil))) (pe_one (pe_not (pe_callB call_isi rfl T.b_isinstance (by decide +kernel) (pa_cons (pv 0) (pa_cons (pe_bltn (v := .ty "bool") rfl T.b_bool (by decide +kernel) rfl) pa_nil)))))))), ?_⟩
    refine My.i_go (σ' := [some _]) rfl ?_
    repeat walk_at "h"
    refine i_isiI (b := true) (by decide +kernel) ?_
    repeat walk_at "h"
    refine i_isiI (b := false) (by decide +kernel) ?_
    repeat walk_at "h"
    exact k
theorem sc_ratio : FnScope ["above", "below", "common"] ["above", "below"] (defScope s_ratio) := ⟨rfl, rfl, rfl, by decide +kernel, rfl, by decide +kernel, by decide +kernel⟩
theorem ok_ratio (T : Tx K mg) : FnAt P w K mg base CX0 1 (He.ga K "ratio") ["above", "below"] spPair := by
  refine T.f_ratio.f.ok sc_ratio ?_ (fun cdv A outer s H vs Q E hr h => ?_)
  · walk_at "len"
  · obtain ⟨a, b, rfl, hb, sa, sb, k⟩ := h
    refine ⟨_, (pss_cons (ps_set (i := 2) sc_ratio.nd rfl (.inl rfl) (pe_callBfun cr_gcd rfl T.b_gcd (pa_cons (pv 0) (pa_cons (pv 1) pa_nil))))
      (pss_one (ps_ret (pe_tup (pa_cons (pe_op op_fdivW (pv 0) (pv 2)) (pa_cons (pe_op op_fdivW (pv 1) (pv 2)) pa_nil)))))), ?_⟩
    refine My.i_go (σ' := [some _, some _, none]) rfl ?_
    obtain ⟨d1, d2⟩ := gcd_div (a := a) hb sb
    repeat walk_at "h"
    rename_i p H1 S hp e
    rw [rat_div hb] at e
    exact k p H1 S hp e
theorem sc_at_least : FnScope ["one", "other"] ["one", "other"] (defScope s_at_least) := ⟨rfl, rfl, rfl, by decide +kernel, rfl, by decide +kernel, by decide +kernel⟩
theorem ok_at_least (T : Tx K mg) : FnAt P w K mg base CX0 1 (He.ga K "at_least") ["one", "other"] (spAtLeast K) := by
  refine T.f_at_least.f.ok sc_at_least ?_ (fun cdv A outer s H vs Q E hr h => ?_)
  · walk_at "len"
  · obtain ⟨a, b, p, q, j, rfl, hp, hq, zp, zq, hj, k⟩ := h
    have z1 := zp.1; have z2 := zp.den; have z3 := zq.1; have z4 := zq.den
    refine ⟨_, (pss_one (ps_ret (pe_cmpR op_ge (pe_op op_mulW (pe_ix ix_seq (pv 0) pe_int (fun _ _ => rfl)) (pe_ix ix_seq (pv 1) pe_int (fun _ _ => rfl))) (pe_op op_mulW (pe_ix ix_seq (pv 1) pe_int (fun _ _ => rfl)) (pe_ix ix_seq (pv 0) pe_int (fun _ _ => rfl))) (nomark _)))), ?_⟩
    refine My.i_go (σ' := [some _, some _]) rfl ?_
    repeat walk_at "h"
    rw [decide_eq_decide.mpr (le_nd p q).symm]
    exact k
theorem sc__law_pot : FnScope ["_law_script", "_law_place", "_law_cell", "_law_own", "_law_small"] ["_law_script", "_law_place"] (defScope s__law_pot) := ⟨rfl, rfl, rfl, by decide +kernel, rfl, by decide +kernel, by decide +kernel⟩
theorem ok__law_pot (T : Tx K mg) : FnAt P w K mg base CX0 1 (He.ga K "_law_pot") ["_law_script", "_law_place"] (spPot K) := by
  refine T.f__law_pot.f.ok sc__law_pot ?_ (fun cdv A outer s H vs Q E hr h => ?_)
  · walk_at "len"
  · obtain ⟨a, ns, i, rfl, hx, hi, hi2, k⟩ := h
    refine ⟨_, (pss_cons (ps_set (i := 2) sc__law_pot.nd rfl (.inl rfl) (pe_ifExp (pt_cmpR op_lt (pv 1) (pe_callB cr_len rfl T.b_len (by decide +kernel) (pa_cons (pv 0) pa_nil)) (nomark _)) (pe_ix ix_seq (pv 0) (pv 1) (fun _ _ => rfl)) (pe_op op_add (pe_op op_mulW pe_int (pv 1)) pe_int)))
      (pss_cons (ps_set (i := 3) sc__law_pot.nd rfl (.inl rfl) (pe_op op_mulW (pe_op op_mod (pe_callTy cr_int1 rfl T.b_int (by decide +kernel) (pa_cons (pe_callB cr_abs rfl T.b_abs (by decide +kernel) (pa_cons (pv 2) pa_nil)) pa_nil)) (pe_op op_powW (pe_op op_powW pe_int pe_int) pe_int)) (pe_callTy cr_int1 rfl T.b_int (by decide +kernel) (pa_cons (pe_cmpR op_ge (pe_callB cr_abs rfl T.b_abs (by decide +kernel) (pa_cons (pv 2) pa_nil)) (pe_op op_powW pe_int pe_int) (nomark _)) pa_nil))))
      (pss_cons (ps_set (i := 4) sc__law_pot.nd rfl (.inl rfl) (pe_op op_mod (pe_callTy cr_int1 rfl T.b_int (by decide +kernel) (pa_cons (pv 2) pa_nil)) pe_int))
      (pss_one (ps_ret (pe_lst (pa_cons (pv 3) (pa_cons (pe_op op_mod (pe_callTy cr_int1 rfl T.b_int (by decide +kernel) (pa_cons (pe_op op_add (pe_op op_add (pe_op op_mulW (pv 4) pe_int) (pe_op op_mulW (pe_op op_mulW pe_int (pv 1)) (pv 1))) pe_int) pa_nil)) pe_int) (pa_cons pe_int pa_nil))))))))), ?_⟩
    refine My.i_go (σ' := [some _, some _, none, none, none]) rfl ?_
    repeat walk_at "h"
    refine i_lenL hx ?_
    repeat walk_at "h"
    refine i_join (fun v => ∃ z : Int, v = .int z) (fun h1 Q hQ => ?_) (fun h1 Q hQ => ?_) ?_
    · have h1 := of_decide_eq_true h1
      rw [List.length_map] at h1
      repeat walk_at "h"
      obtain ⟨j, rfl⟩ : ∃ j : Nat, i = (j : Int) := ⟨i.toNat, by omega⟩
      have hj : j < ns.length := by omega
      exact i_ixsL hx (atI_nat (j := j) (v := .int ns[j]) (by rw [List.getElem?_map, List.getElem?_eq_getElem hj, Option.map_some])) (hQ _ ⟨_, rfl⟩)
    · repeat walk_at "h"
      exact hQ _ ⟨_, rfl⟩
    · rintro v ⟨z, rfl⟩
      repeat walk_at "h"
      refine i_modQ (by decide +kernel) fun m hm1 hm2 => ?_
      repeat walk_at "h"
      refine i_I (mul01 (pot_lt hm1 hm2)) ?_
      repeat walk_at "h"
      rename_i q H1 S hq e1
      exact k q H1 S hq ⟨_, _, _, e1, mul01_nn hm1, Int.emod_nonneg _ (by decide), Int.lt_trans (Int.emod_lt_of_pos _ (by decide)) (by decide), Int.le_refl _, Int.le_refl _⟩
theorem sc__law_take : FnScope ["_law_pot_here", "_law_upto", "_law_digit", "_law_prime", "_law_mixed"] ["_law_pot_here", "_law_upto"] (defScope s__law_take) := ⟨rfl, rfl, rfl, by decide +kernel, rfl, by decide +kernel, by decide +kernel⟩
theorem ok__law_take (T : Tx K mg) : FnAt P w K mg base CX0 1 (He.ga K "_law_take") ["_law_pot_here", "_law_upto"] spTake := by
  refine T.f__law_take.f.ok sc__law_take ?_ (fun cdv A outer s H vs Q E hr h => ?_)
  · walk_at "len"
  · obtain ⟨p, u, n, rfl, ⟨a, b, c, hp, ha, hb, hb2, hc, hcn⟩, hn, hu, hu2, k⟩ := h
    refine ⟨_, (pss_cons (ps_if (pt_cmpR op_gt (pe_ix ix_seq (pv 0) pe_int (fun _ _ => rfl)) pe_int (nomark _)) (pss_cons (ps_set (i := 2) sc__law_take.nd rfl (.inl rfl) (pe_op op_mod (pe_callTy cr_int1 rfl T.b_int (by decide +kernel) (pa_cons (pe_ix ix_seq (pv 0) pe_int (fun _ _ => rfl)) pa_nil)) (pv 1)))
      (pss_cons (ps_asg (pe_op op_fdivW (pe_ix ix_seq (pv 0) pe_int (fun _ _ => rfl)) (pv 1)) (pg_sub (pv 0) pe_int set_list))
      (pss_one (ps_ret (pv 2))))) pss_nil)
      (pss_cons (ps_asg (pe_op op_add (pe_ix ix_seq (pv 0) pe_int (fun _ _ => rfl)) pe_int) (pg_sub (pv 0) pe_int set_list))
      (pss_cons (ps_set (i := 3) sc__law_take.nd rfl (.inl rfl) (pe_ix ix_seq (pe_lst (pa_cons pe_int (pa_cons pe_int (pa_cons pe_int (pa_cons pe_int (pa_cons pe_int pa_nil)))))) (pe_op op_mod (pe_callTy cr_int1 rfl T.b_int (by decide +kernel) (pa_cons (pe_ix ix_seq (pv 0) pe_int (fun _ _ => rfl)) pa_nil)) pe_int) (fun _ _ => rfl)))
      (pss_cons (ps_set (i := 4) sc__law_take.nd rfl (.inl rfl) (pe_op op_mod (pe_callTy cr_int1 rfl T.b_int (by decide +kernel) (pa_cons (pe_op op_powW (pe_callTy cr_int1 rfl T.b_int (by decide +kernel) (pa_cons (pe_op op_add (pe_op op_add (pe_ix ix_seq (pv 0) pe_int (fun _ _ => rfl)) (pe_op op_mulW (pe_op op_mulW pe_int (pe_ix ix_seq (pv 0) pe_int (fun _ _ => rfl))) (pe_ix ix_seq (pv 0) pe_int (fun _ _ => rfl)))) pe_int) pa_nil)) pe_int) pa_nil)) (pv 3)))
      (pss_cons (ps_set (i := 4) sc__law_take.nd rfl (.inl rfl) (pe_op op_mod (pe_callTy cr_int1 rfl T.b_int (by decide +kernel) (pa_cons (pe_op op_mulW (pv 4) (pe_op op_add (pe_op op_mod (pe_callTy cr_int1 rfl T.b_int (by decide +kernel) (pa_cons (pv 4) pa_nil)) pe_int) (pe_op op_mulW pe_int (pe_ix ix_seq (pv 0) pe_int (fun _ _ => rfl))))) pa_nil)) pe_int))
      (pss_one (ps_ret (pe_op op_mod (pe_callTy cr_int1 rfl T.b_int (by decide +kernel) (pa_cons (pe_op op_fdivW (pv 4) pe_int) pa_nil)) (pv 1))))))))), ?_⟩
    refine My.i_go (σ' := [some _, some _, none, none, none]) rfl ?_
    repeat walk_at "h"
    refine ite2 (fun h1 => ?_) (fun h1 => ?_)
    · repeat walk_at "h"
      exact k _ _ (Int.emod_nonneg _ (by omega)) (Int.emod_lt_of_pos _ hu) ⟨_, _, _, by walk_at "look", Int.ediv_nonneg ha (by omega), hb, hb2, hc, by omega⟩ (by walk_at "but")
    · repeat walk_at "h"
      obtain ⟨v, hv, hm⟩ := atI_mem (xs := [V.int 2147483647, V.int 2147483629, V.int 2147483587, V.int 2147483579, V.int 2147483563]) (i := (c + 1) % 5) (Int.emod_nonneg _ (by omega)) (by simp only [List.length]; omega)
      obtain ⟨q, rfl, hq1, hq2⟩ : ∃ q : Int, v = .int q ∧ 2147483562 < q ∧ q < 2147483648 := by
        simp only [List.mem_cons, List.not_mem_nil, or_false] at hm
        rcases hm with rfl | rfl | rfl | rfl | rfl <;> exact ⟨_, rfl, by decide, by decide⟩
      refine i_ixsL (SqL.of (by walk_at "look")) hv ?_
      repeat walk_at "h"
      refine i_I (pow3Q hb hb2 (by decide) (by decide) (by omega) (by omega) (by decide) (by decide)) ?_
      iterate 3 walk_at "h"
      refine i_modQ (by omega) fun m hm1 hm2 => ?_
      repeat walk_at "h"
      exact k _ _ (Int.emod_nonneg _ (by omega)) (Int.emod_lt_of_pos _ hu) ⟨_, _, _, by walk_at "look", ha, hb, hb2, by omega, by omega⟩ (by walk_at "but")
theorem sc__law_cells : FnScope ["_law_script", "_law_most"] ["_law_script", "_law_most"] (defScope s__law_cells) := ⟨rfl, rfl, rfl, by decide +kernel, rfl, by decide +kernel, by decide +kernel⟩
theorem ok__law_cells (T : Tx K mg) : FnAt P w K mg base CX0 1 (He.ga K "_law_cells") ["_law_script", "_law_most"] (spCells K) := by
  refine T.f__law_cells.f.ok sc__law_cells ?_ (fun cdv A outer s H vs Q E hr h => ?_)
  · walk_at "len"
  · obtain ⟨a, ns, m, rfl, hx, hl, hm, k⟩ := h
    refine ⟨_, (pss_one (ps_ret (pe_listRg rfl rfl T.b_list (prg_1 rfl T.b_range (pe_callB (cr_max2 rfl) rfl T.b_max (by decide +kernel) (pa_cons pe_int (pa_cons (pe_callB (cr_min2 rfl) rfl T.b_min (by decide +kernel) (pa_cons (pv 1) (pa_cons (pe_callB cr_len rfl T.b_len (by decide +kernel) (pa_cons (pv 0) pa_nil)) pa_nil))) pa_nil))))))), ?_⟩
    refine My.i_go (σ' := [some _, some _]) rfl ?_
    repeat walk_at "h"
    refine i_lenL hx ?_
    repeat walk_at "h"
    rw [List.length_map]
    generalize e : (if (if (ns.length : Int) < m then (ns.length : Int) else m) > 1 then (if (ns.length : Int) < m then (ns.length : Int) else m) else 1) = j
    have hj : 1 ≤ j ∧ j ≤ 100 := by split at e <;> split at e <;> omega
    obtain ⟨i, rfl⟩ : ∃ i : Nat, j = (i : Int) := ⟨j.toNat, by omega⟩
    exact i_newR (.of_le (by omega) (by omega) (by omega) (by omega)) fun q H1 S hq e1 => k q H1 i (by omega) S hq e1
theorem sc__law_common : FnScope ["_law_one", "_law_other", "_law_left", "_law_right_here"] ["_law_one", "_law_other"] (defScope s__law_common) := ⟨rfl, rfl, rfl, by decide +kernel, rfl, by decide +kernel, by decide +kernel⟩
theorem ok__law_common (T : Tx K mg) : FnAt P w K mg base CX0 1 (He.ga K "_law_common") ["_law_one", "_law_other"] spCommon := by
  refine T.f__law_common.f.ok sc__law_common ?_ (fun cdv A outer s H vs Q E hr h => ?_)
  · walk_at "len"
  · obtain ⟨a, b, rfl, k⟩ := h
    refine ⟨_, (pss_cons (ps_par (i := 2) (j := 3) rfl sc__law_common.nd rfl rfl (by decide) rfl rfl (pa_cons (pe_callB cr_abs rfl T.b_abs (by decide +kernel) (pa_cons (pv 0) pa_nil)) (pa_cons (pe_callB cr_abs rfl T.b_abs (by decide +kernel) (pa_cons (pv 1) pa_nil)) pa_nil)) rfl)
      (pss_cons (ps_while PassesOwn.never (pt_cmpR op_gt (pv 3) pe_int (nomark _)) (pss_one (ps_par (i := 2) (j := 3) rfl sc__law_common.nd rfl rfl (by decide) rfl rfl (pa_cons (pv 3) (pa_cons (pe_op op_mod (pe_callTy cr_int1 rfl T.b_int (by decide +kernel) (pa_cons (pv 2) pa_nil)) (pe_callTy cr_int1 rfl T.b_int (by decide +kernel) (pa_cons (pv 3) pa_nil))) pa_nil)) rfl)))
      (pss_one (ps_ret (pv 2))))), ?_⟩
    refine My.i_go (σ' := [some _, some _, none, none]) rfl ?_
    repeat walk_at "h"
    have ea : (if a < 0 then -a else a) = (a.natAbs : Int) := by split <;> omega
    have eb : (if b < 0 then -b else b) = (b.natAbs : Int) := by split <;> omega
    rw [ea, eb]
    refine while_by (fun σ H' => H' = H ∧ ∃ l r : Nat, σ = [some (.int a), some (.int b), some (.int (l : Int)), some (.int (r : Int))] ∧ Nat.gcd l r = Nat.gcd a.natAbs b.natAbs) (fun σ _ => match σ[3]? with | some (some (V.int r)) => r.toNat | _ => 0)
      ⟨rfl, a.natAbs, b.natAbs, rfl, rfl⟩ ?_ (fun σ H Q Q' hQ ⟨v, e1, i, j, e2, e3, c, e4, q⟩ => ⟨v, e1, i, j, e2, e3, c, e4, hQ _ _ q⟩)
    rintro σ H' ⟨rfl, l, r, rfl, hg⟩
    repeat walk_at "h"
    refine ite2 (fun h1 => ?_) (fun h1 => ?_)
    · have h1 := of_decide_eq_true h1
      repeat walk_at "h"
      have e : ((l : Int) % (r : Int)) = ((l % r : Nat) : Int) := by omega
      refine ⟨⟨rfl, r, l % r, by rw [e]; rfl, ?_⟩, ?_⟩
      · rw [← hg, Nat.gcd_comm l r, Nat.gcd_rec r l, Nat.gcd_comm (l % r) r]
      · show ((l : Int) % (r : Int)).toNat < ((r : Nat) : Int).toNat
        have := Nat.mod_lt l (show r > 0 by omega)
        omega
    · have h1 : ¬ (0 : Int) < (r : Int) := fun z => h1 (decide_eq_true z)
      have : r = 0 := by omega
      subst this
      rw [Nat.gcd_zero_right] at hg
      subst hg
      repeat walk_at "h"
      exact k
theorem sc__law_is_less : FnScope ["_law_one", "_law_other"] ["_law_one", "_law_other"] (defScope s__law_is_less) := ⟨rfl, rfl, rfl, by decide +kernel, rfl, by decide +kernel, by decide +kernel⟩
theorem ok__law_is_less (T : Tx K mg) : FnAt P w K mg base CX0 1 (He.ga K "_law_is_less") ["_law_one", "_law_other"] (spLess K) := by
  refine T.f__law_is_less.f.ok sc__law_is_less ?_ (fun cdv A outer s H vs Q E hr h => ?_)
  · walk_at "len"
  · obtain ⟨a, b, p, q, j, rfl, hp, hq, zp, zq, hj, k⟩ := h
    have z1 := zp.1; have z2 := zp.den; have z3 := zq.1; have z4 := zq.den
    refine ⟨_, (pss_one (ps_ret (pe_cmpR op_lt (pe_op op_mulW (pe_ix ix_seq (pv 0) pe_int (fun _ _ => rfl)) (pe_ix ix_seq (pv 1) pe_int (fun _ _ => rfl))) (pe_op op_mulW (pe_ix ix_seq (pv 1) pe_int (fun _ _ => rfl)) (pe_ix ix_seq (pv 0) pe_int (fun _ _ => rfl))) (nomark _)))), ?_⟩
    refine My.i_go (σ' := [some _, some _]) rfl ?_
    repeat walk_at "h"
    rw [decide_eq_decide.mpr (Rat.lt_iff p q).symm]
    exact k
theorem sc_Source_volts : FnScope ["self"] ["self"] (defScope s_Source_volts) := ⟨rfl, rfl, rfl, by decide +kernel, rfl, by decide +kernel, by decide +kernel⟩
theorem ok_Source_volts (T : Tx K mg) : FnAt P w K mg base CX0 1 (gtOf K (He.ma K (He.ga K "Source") "volts")) ["self"] (spVolts (He.ga K "Source")) := by
  refine T.p_Source_volts.f.ok sc_Source_volts ?_ (fun cdv A outer s H vs Q E hr h => ?_)
  · walk_at "len"
  · obtain ⟨x, dx, a, b, rfl, hx, k⟩ := h
    have hc := T.c_Source; have n1 := T.a_Source__volts
    refine ⟨_, (pss_one (ps_ret (pe_fld (pv 0) rfl))), ?_⟩
    refine My.i_go (σ' := [some _]) rfl ?_
    repeat walk_at "h"
    exact k
theorem sc_Source_ohms : FnScope ["self"] ["self"] (defScope s_Source_ohms) := ⟨rfl, rfl, rfl, by decide +kernel, rfl, by decide +kernel, by decide +kernel⟩
theorem ok_Source_ohms (T : Tx K mg) : FnAt P w K mg base CX0 1 (gtOf K (He.ma K (He.ga K "Source") "ohms")) ["self"] (spOhms (He.ga K "Source")) := by
  refine T.p_Source_ohms.f.ok sc_Source_ohms ?_ (fun cdv A outer s H vs Q E hr h => ?_)
  · walk_at "len"
  · obtain ⟨x, dx, a, b, rfl, hx, k⟩ := h
    have hc := T.c_Source; have n2 := T.a_Source__ohms
    refine ⟨_, (pss_one (ps_ret (pe_fld (pv 0) rfl))), ?_⟩
    refine My.i_go (σ' := [some _]) rfl ?_
    repeat walk_at "h"
    exact k
theorem sc_is_ratio : FnScope ["value", "above", "below"] ["value"] (defScope s_is_ratio) := ⟨rfl, rfl, rfl, by decide +kernel, rfl, by decide +kernel, by decide +kernel⟩
theorem ok_is_ratio (T : Tx K mg) : FnAt P w K mg base CX0 2 (He.ga K "is_ratio") ["value"] (spIsRatio K) := by
  refine T.f_is_ratio.f.ok sc_is_ratio ?_ (fun cdv A outer s H vs Q E hr h => ?_)
  · walk_at "len"
  · obtain ⟨a, p, rfl, hp, h0, k⟩ := h
    have n0 := nn_num h0
    have d0 := den_pos p
    refine ⟨_, (pss_cons (ps_if (PW.pt (pw_or (pt_not (pt_val (pe_callB call_isi rfl T.b_isinstance (by decide +kernel) (pa_cons (pv 0) (pa_cons (pe_bltn (v := .ty "tuple") rfl T.b_tuple (by decide +kernel) rfl) pa_nil))))) (pw_or1 (pt_cmpR op_ne (pe_callB cr_len rfl T.b_len (by decide +kernel) (pa_cons (pv 0) pa_nil)) pe_int (nomark _))))) (pss_one (ps_ret pe_bl)) pss_nil)
      (pss_cons (ps_asg (pv 0) (pg_tup rfl (pgs_cons (pg_name (i := 1) sc_is_ratio.nd rfl (.inl rfl)) (pgs_cons (pg_name (i := 2) sc_is_ratio.nd rfl (.inl rfl)) pgs_nil))))
      (pss_cons (ps_if (PW.pt (pw_or (pt_not (pt_val (pe_fn T.f_is_integer (ok_is_integer T) (hr.mono (by decide)) (pa_cons (pv 1) pa_nil)))) (pw_or1 (pt_not (pt_val (pe_fn T.f_is_integer (ok_is_integer T) (hr.mono (by decide)) (pa_cons (pv 2) pa_nil))))))) (pss_one (ps_ret pe_bl)) pss_nil)
      (pss_one (ps_ret (pe_and (pe_cmpR op_ge (pv 1) pe_int (nomark _)) (pe_and (pe_cmpR op_ge (pv 2) pe_int (nomark _)) (pe_one (pe_cmpR op_eq (pe_callBfun cr_gcd rfl T.b_gcd (pa_cons (pv 1) (pa_cons (pv 2) pa_nil))) pe_int (nomark _)))))))))), ?_⟩
    refine My.i_go (σ' := [some _, none, none]) rfl ?_
    repeat walk_at "h"
    refine i_isiT (b := true) hp (by decide +kernel) ?_
    repeat walk_at "h"
    refine i_neF rfl ?_
    repeat walk_at "h"
    refine ⟨_, rfl, ?_⟩
    repeat walk_at "h"
    refine ⟨_, rfl, ?_⟩
    repeat walk_at "h"
    refine ite_d n0 ?_
    repeat walk_at "h"
    refine ite_d (by omega) ?_
    repeat walk_at "h"
    refine i_eqT ?_ k
    have := p.reduced
    rw [Int.natAbs_natCast, this]
    rfl
theorem sc_plus : FnScope ["one", "other"] ["one", "other"] (defScope s_plus) := ⟨rfl, rfl, rfl, by decide +kernel, rfl, by decide +kernel, by decide +kernel⟩
theorem ok_plus (T : Tx K mg) : FnAt P w K mg base CX0 2 (He.ga K "plus") ["one", "other"] (spPlus K) := by
  refine T.f_plus.f.ok sc_plus ?_ (fun cdv A outer s H vs Q E hr h => ?_)
  · walk_at "len"
  · obtain ⟨a, b, p, q, j, rfl, hp, hq, zp, zq, hj, -, k⟩ := h
    have z1 := zp.1; have z2 := zp.den; have z3 := zq.1; have z4 := zq.den
    refine ⟨_, (pss_one (ps_ret (pe_fn T.f_ratio (ok_ratio T) (hr.mono (by decide)) (pa_cons (pe_op op_add (pe_op op_mulW (pe_ix ix_seq (pv 0) pe_int (fun _ _ => rfl)) (pe_ix ix_seq (pv 1) pe_int (fun _ _ => rfl))) (pe_op op_mulW (pe_ix ix_seq (pv 1) pe_int (fun _ _ => rfl)) (pe_ix ix_seq (pv 0) pe_int (fun _ _ => rfl)))) (pa_cons (pe_op op_mulW (pe_ix ix_seq (pv 0) pe_int (fun _ _ => rfl)) (pe_ix ix_seq (pv 1) pe_int (fun _ _ => rfl))) pa_nil))))), ?_⟩
    refine My.i_go (σ' := [some _, some _]) rfl ?_
    repeat walk_at "h"
    refine ⟨_, _, rfl, dd_pos p q, pow_le_4000 (abs_add_lt (abs_mul_lt z1 z4) (abs_mul_lt z3 z2)) (by omega), pow_le_4000 (abs_mul_lt z2 z4) (by omega), fun r H' S hr e => ?_⟩
    rw [add_div] at e
    exact k r H' S hr e
theorem sc_times : FnScope ["one", "other"] ["one", "other"] (defScope s_times) := ⟨rfl, rfl, rfl, by decide +kernel, rfl, by decide +kernel, by decide +kernel⟩
theorem ok_times (T : Tx K mg) : FnAt P w K mg base CX0 2 (He.ga K "times") ["one", "other"] (spTimes K) := by
  refine T.f_times.f.ok sc_times ?_ (fun cdv A outer s H vs Q E hr h => ?_)
  · walk_at "len"
  · obtain ⟨a, b, p, q, j, rfl, hp, hq, zp, zq, hj, -, k⟩ := h
    have z1 := zp.1; have z2 := zp.den; have z3 := zq.1; have z4 := zq.den
    refine ⟨_, (pss_one (ps_ret (pe_fn T.f_ratio (ok_ratio T) (hr.mono (by decide)) (pa_cons (pe_op op_mulW (pe_ix ix_seq (pv 0) pe_int (fun _ _ => rfl)) (pe_ix ix_seq (pv 1) pe_int (fun _ _ => rfl))) (pa_cons (pe_op op_mulW (pe_ix ix_seq (pv 0) pe_int (fun _ _ => rfl)) (pe_ix ix_seq (pv 1) pe_int (fun _ _ => rfl))) pa_nil))))), ?_⟩
    refine My.i_go (σ' := [some _, some _]) rfl ?_
    repeat walk_at "h"
    refine ⟨_, _, rfl, dd_pos p q, pow_le_4000 (abs_mul_lt z1 z3) (by omega), pow_le_4000 (abs_mul_lt z2 z4) (by omega), fun r H' S hr e => ?_⟩
    rw [mul_div] at e
    exact k r H' S hr e
theorem sc_over : FnScope ["one", "other"] ["one", "other"] (defScope s_over) := ⟨rfl, rfl, rfl, by decide +kernel, rfl, by decide +kernel, by decide +kernel⟩
theorem ok_over (T : Tx K mg) : FnAt P w K mg base CX0 2 (He.ga K "over") ["one", "other"] (spOver K) := by
  refine T.f_over.f.ok sc_over ?_ (fun cdv A outer s H vs Q E hr h => ?_)
  · walk_at "len"
  · obtain ⟨a, b, p, q, j, rfl, hp, hq, zp, zq, hj, h0, k⟩ := h
    have z1 := zp.1; have z2 := zp.den; have z3 := zq.1; have z4 := zq.den
    refine ⟨_, (pss_one (ps_ret (pe_fn T.f_ratio (ok_ratio T) (hr.mono (by decide)) (pa_cons (pe_op op_mulW (pe_ix ix_seq (pv 0) pe_int (fun _ _ => rfl)) (pe_ix ix_seq (pv 1) pe_int (fun _ _ => rfl))) (pa_cons (pe_op op_mulW (pe_ix ix_seq (pv 0) pe_int (fun _ _ => rfl)) (pe_ix ix_seq (pv 1) pe_int (fun _ _ => rfl))) pa_nil))))), ?_⟩
    refine My.i_go (σ' := [some _, some _]) rfl ?_
    repeat walk_at "h"
    refine ⟨_, _, rfl, dn_pos p h0, pow_le_4000 (abs_mul_lt z1 z4) (by omega), pow_le_4000 (abs_mul_lt z2 z3) (by omega), fun r H' S hr e => ?_⟩
    rw [div_div h0] at e
    exact k r H' S hr e
theorem sc__law_of : FnScope ["_law_pot_here", "_law_some"] ["_law_pot_here", "_law_some"] (defScope s__law_of) := ⟨rfl, rfl, rfl, by decide +kernel, rfl, by decide +kernel, by decide +kernel⟩
theorem ok__law_of (T : Tx K mg) : FnAt P w K mg base CX0 2 (He.ga K "_law_of") ["_law_pot_here", "_law_some"] (spOf K) := by
  refine T.f__law_of.f.ok sc__law_of ?_ (fun cdv A outer s H vs Q E hr h => ?_)
  · walk_at "len"
  · obtain ⟨p, q, xs, n, rfl, hP, hn, hqp, hx, hx0, hx1, k⟩ := h
    refine ⟨_, (pss_one (ps_ret (pe_ix ix_seq (pv 1) (pe_fn T.f__law_take (ok__law_take T) (hr.mono (by decide)) (pa_cons (pv 0) (pa_cons (pe_callB cr_len rfl T.b_len (by decide +kernel) (pa_cons (pv 1) pa_nil)) pa_nil))) (fun _ _ => rfl)))), ?_⟩
    refine My.i_go (σ' := [some _, some _]) rfl ?_
    repeat walk_at "h"
    refine i_lenL hx ?_
    repeat walk_at "h"
    refine ⟨p, xs.length, n, rfl, hP, hn, by omega, by omega, fun r H' h0 h1 hP' hB => ?_⟩
    obtain ⟨v, hv, hm⟩ := atI_mem h0 h1
    exact i_ixsL (hB.seq hqp hx) hv (k v H' hm hP' hB)
theorem sc__law_pair : FnScope ["_law_above", "_law_under", "_law_by"] ["_law_above", "_law_under"] (defScope s__law_pair) := ⟨rfl, rfl, rfl, by decide +kernel, rfl, by decide +kernel, by decide +kernel⟩
theorem ok__law_pair (T : Tx K mg) : FnAt P w K mg base CX0 2 (He.ga K "_law_pair") ["_law_above", "_law_under"] spPair := by
  refine T.f__law_pair.f.ok sc__law_pair ?_ (fun cdv A outer s H vs Q E hr h => ?_)
  · walk_at "len"
  · obtain ⟨a, b, rfl, hb, sa, sb, k⟩ := h
    refine ⟨_, (pss_cons (ps_set (i := 2) sc__law_pair.nd rfl (.inl rfl) (pe_fn T.f__law_common (ok__law_common T) (hr.mono (by decide)) (pa_cons (pv 0) (pa_cons (pv 1) pa_nil))))
      (pss_one (ps_ret (pe_tup (pa_cons (pe_op op_fdivW (pv 0) (pv 2)) (pa_cons (pe_op op_fdivW (pv 1) (pv 2)) pa_nil)))))), ?_⟩
    refine My.i_go (σ' := [some _, some _, none]) rfl ?_
    repeat walk_at "h"
    refine ⟨a, b, rfl, ?_⟩
    obtain ⟨d1, d2⟩ := gcd_div (a := a) hb sb
    repeat walk_at "h"
    rename_i p H1 S hp e
    rw [rat_div hb] at e
    exact k p H1 S hp e
theorem sc_weakening : FnScope ["ohms", "load"] ["ohms", "load"] (defScope s_weakening) := ⟨rfl, rfl, rfl, by decide +kernel, rfl, by decide +kernel, by decide +kernel⟩
theorem ok_weakening (T : Tx K mg) : FnAt P w K mg base CX0 3 (He.ga K "weakening") ["ohms", "load"] (spWeak K) := by
  refine T.f_weakening.f.ok sc_weakening ?_ (fun cdv A outer s H vs Q E hr h => ?_)
  · walk_at "len"
  · obtain ⟨a, b, r, g, j, rfl, ha, hb, zr, zg, hj, hr0, hg0, k⟩ := h
    have h1 := T.t_ONE
    refine ⟨_, (pss_cons (ps_if (pt_not (pt_val (pe_fn T.f_is_ratio (ok_is_ratio T) (hr.mono (by decide)) (pa_cons (pv 1) pa_nil)))) (pss_one ps_never) pss_nil)
      (pss_one (ps_ret (pe_fn T.f_plus (ok_plus T) (hr.mono (by decide)) (pa_cons (pe_glob (v := .ref _) rfl T.m_ONE rfl) (pa_cons (pe_fn T.f_times (ok_times T) (hr.mono (by decide)) (pa_cons (pv 0) (pa_cons (pv 1) pa_nil))) pa_nil)))))), ?_⟩
    refine My.i_go (σ' := [some _, some _]) rfl ?_
    repeat walk_at "h"
    refine ⟨_, _, rfl, hb, hg0, ?_⟩
    repeat walk_at "h"
    refine ⟨_, _, _, _, j, rfl, ha, hb, zr, zg, by omega, trivial, fun p H1 S hp e => ?_⟩
    refine ⟨_, _, (1 : Rat), _, 2 * j + 1, rfl, h1 H1, .of e, sz_one (by omega), (zr.mul zg).mono (by omega), by omega, trivial, fun q H2 S2 hq e2 => ?_⟩
    exact k q H2 (S.trans S2) (S.free hq) e2
theorem sc_covers : FnScope ["one", "other"] ["one", "other"] (defScope s_covers) := ⟨rfl, rfl, rfl, by decide +kernel, rfl, by decide +kernel, by decide +kernel⟩
theorem ok_covers (T : Tx K mg) : FnAt P w K mg base CX0 3 (He.ga K "covers") ["one", "other"] (spSrcCmp K (He.ga K "Source") strong) := by
  refine T.f_covers.f.ok sc_covers ?_ (fun cdv A outer s H vs Q E hr h => ?_)
  · walk_at "len"
  · obtain ⟨s1, s2, v, r, w1, u, j, rfl, ⟨dx, a, b, e1, hv, hr1, v0, r0⟩, ⟨dy, c, d, e2, hw, hu1, w0, u0⟩, zv, zr, zw, zu, hj, k⟩ := h
    have hc := T.c_Source
    refine ⟨_, (pss_cons (ps_if (pt_not (pt_val (pe_fn T.f_at_least (ok_at_least T) (hr.mono (by decide)) (pa_cons (pe_pr T.c_Source T.p_Source_volts (ok_Source_volts T) (hr.mono (by decide)) (pv 0)) (pa_cons (pe_pr T.c_Source T.p_Source_volts (ok_Source_volts T) (hr.mono (by decide)) (pv 1)) pa_nil))))) (pss_one (ps_ret pe_bl)) pss_nil)
      (pss_one (ps_ret (pe_fn T.f_at_least (ok_at_least T) (hr.mono (by decide)) (pa_cons (pe_fn T.f_times (ok_times T) (hr.mono (by decide)) (pa_cons (pe_pr T.c_Source T.p_Source_volts (ok_Source_volts T) (hr.mono (by decide)) (pv 0)) (pa_cons (pe_pr T.c_Source T.p_Source_ohms (ok_Source_ohms T) (hr.mono (by decide)) (pv 1)) pa_nil))) (pa_cons (pe_fn T.f_times (ok_times T) (hr.mono (by decide)) (pa_cons (pe_pr T.c_Source T.p_Source_volts (ok_Source_volts T) (hr.mono (by decide)) (pv 1)) (pa_cons (pe_pr T.c_Source T.p_Source_ohms (ok_Source_ohms T) (hr.mono (by decide)) (pv 0)) pa_nil))) pa_nil)))))), ?_⟩
    refine My.i_go (σ' := [some _, some _]) rfl ?_
    repeat walk_at "h"
    refine ⟨_, _, _, _, j, rfl, hv, hw, zv, zw, by omega, ?_⟩
    repeat walk_at "h"
    refine ite_nb (fun h1 => ?_) (fun h1 => ?_)
    · have h1 : decide (w1 ≤ v) = false := h1
      repeat walk_at "h"
      have q := k H (.refl H)
      unfold strong at q
      rw [h1] at q
      exact q
    · have h1 : decide (w1 ≤ v) = true := h1
      repeat walk_at "h"
      refine ⟨_, _, _, _, j, rfl, hv, hu1, zv, zu, by omega, trivial, fun p H1 S hp e3 => ?_⟩
      repeat walk_at "h"
      refine ⟨_, _, _, _, j, rfl, S.seqT hw, S.seqT hr1, zw, zr, by omega, trivial, fun q H2 S2 hq e4 => ?_⟩
      refine ⟨_, _, _, _, j + j, rfl, S2.seqT (.of e3), .of e4, zv.mul zu, zw.mul zr, by omega, ?_⟩
      have q := k H2 (S.trans S2)
      unfold strong at q
      rw [h1] at q
      exact q
theorem sc__law_plus : FnScope ["_law_one", "_law_other"] ["_law_one", "_law_other"] (defScope s__law_plus) := ⟨rfl, rfl, rfl, by decide +kernel, rfl, by decide +kernel, by decide +kernel⟩
theorem ok__law_plus (T : Tx K mg) : FnAt P w K mg base CX0 3 (He.ga K "_law_plus") ["_law_one", "_law_other"] (spPlus K) := by
  refine T.f__law_plus.f.ok sc__law_plus ?_ (fun cdv A outer s H vs Q E hr h => ?_)
  · walk_at "len"
  · obtain ⟨a, b, p, q, j, rfl, hp, hq, zp, zq, hj, -, k⟩ := h
    have z1 := zp.1; have z2 := zp.den; have z3 := zq.1; have z4 := zq.den
    refine ⟨_, (pss_one (ps_ret (pe_fn T.f__law_pair (ok__law_pair T) (hr.mono (by decide)) (pa_cons (pe_op op_add (pe_op op_mulW (pe_ix ix_seq (pv 0) pe_int (fun _ _ => rfl)) (pe_ix ix_seq (pv 1) pe_int (fun _ _ => rfl))) (pe_op op_mulW (pe_ix ix_seq (pv 1) pe_int (fun _ _ => rfl)) (pe_ix ix_seq (pv 0) pe_int (fun _ _ => rfl)))) (pa_cons (pe_op op_mulW (pe_ix ix_seq (pv 0) pe_int (fun _ _ => rfl)) (pe_ix ix_seq (pv 1) pe_int (fun _ _ => rfl))) pa_nil))))), ?_⟩
    refine My.i_go (σ' := [some _, some _]) rfl ?_
    repeat walk_at "h"
    refine ⟨_, _, rfl, dd_pos p q, pow_le_4000 (abs_add_lt (abs_mul_lt z1 z4) (abs_mul_lt z3 z2)) (by omega), pow_le_4000 (abs_mul_lt z2 z4) (by omega), fun r H' S hr e => ?_⟩
    rw [add_div] at e
    exact k r H' S hr e
theorem sc__law_times : FnScope ["_law_one", "_law_other"] ["_law_one", "_law_other"] (defScope s__law_times) := ⟨rfl, rfl, rfl, by decide +kernel, rfl, by decide +kernel, by decide +kernel⟩
theorem ok__law_times (T : Tx K mg) : FnAt P w K mg base CX0 3 (He.ga K "_law_times") ["_law_one", "_law_other"] (spTimes K) := by
  refine T.f__law_times.f.ok sc__law_times ?_ (fun cdv A outer s H vs Q E hr h => ?_)
  · walk_at "len"
  · obtain ⟨a, b, p, q, j, rfl, hp, hq, zp, zq, hj, -, k⟩ := h
    have z1 := zp.1; have z2 := zp.den; have z3 := zq.1; have z4 := zq.den
    refine ⟨_, (pss_one (ps_ret (pe_fn T.f__law_pair (ok__law_pair T) (hr.mono (by decide)) (pa_cons (pe_op op_mulW (pe_ix ix_seq (pv 0) pe_int (fun _ _ => rfl)) (pe_ix ix_seq (pv 1) pe_int (fun _ _ => rfl))) (pa_cons (pe_op op_mulW (pe_ix ix_seq (pv 0) pe_int (fun _ _ => rfl)) (pe_ix ix_seq (pv 1) pe_int (fun _ _ => rfl))) pa_nil))))), ?_⟩
    refine My.i_go (σ' := [some _, some _]) rfl ?_
    repeat walk_at "h"
    refine ⟨_, _, rfl, dd_pos p q, pow_le_4000 (abs_mul_lt z1 z3) (by omega), pow_le_4000 (abs_mul_lt z2 z4) (by omega), fun r H' S hr e => ?_⟩
    rw [mul_div] at e
    exact k r H' S hr e
theorem sc__law_over : FnScope ["_law_one", "_law_other"] ["_law_one", "_law_other"] (defScope s__law_over) := ⟨rfl, rfl, rfl, by decide +kernel, rfl, by decide +kernel, by decide +kernel⟩
theorem ok__law_over (T : Tx K mg) : FnAt P w K mg base CX0 3 (He.ga K "_law_over") ["_law_one", "_law_other"] (spOver K) := by
  refine T.f__law_over.f.ok sc__law_over ?_ (fun cdv A outer s H vs Q E hr h => ?_)
  · walk_at "len"
  · obtain ⟨a, b, p, q, j, rfl, hp, hq, zp, zq, hj, h0, k⟩ := h
    have z1 := zp.1; have z2 := zp.den; have z3 := zq.1; have z4 := zq.den
    refine ⟨_, (pss_one (ps_ret (pe_fn T.f__law_pair (ok__law_pair T) (hr.mono (by decide)) (pa_cons (pe_op op_mulW (pe_ix ix_seq (pv 0) pe_int (fun _ _ => rfl)) (pe_ix ix_seq (pv 1) pe_int (fun _ _ => rfl))) (pa_cons (pe_op op_mulW (pe_ix ix_seq (pv 0) pe_int (fun _ _ => rfl)) (pe_ix ix_seq (pv 1) pe_int (fun _ _ => rfl))) pa_nil))))), ?_⟩
    refine My.i_go (σ' := [some _, some _]) rfl ?_
    repeat walk_at "h"
    refine ⟨_, _, rfl, dn_pos p h0, pow_le_4000 (abs_mul_lt z1 z4) (by omega), pow_le_4000 (abs_mul_lt z2 z3) (by omega), fun r H' S hr e => ?_⟩
    rw [div_div h0] at e
    exact k r H' S hr e
theorem sc__law_fair : FnScope ["_law_pot_here", "_law_above"] ["_law_pot_here"] (defScope s__law_fair) := ⟨rfl, rfl, rfl, by decide +kernel, rfl, by decide +kernel, by decide +kernel⟩
theorem ok__law_fair (T : Tx K mg) : FnAt P w K mg base CX0 3 (He.ga K "_law_fair") ["_law_pot_here"] (spFair K) := by
  refine T.f__law_fair.f.ok sc__law_fair ?_ (fun cdv A outer s H vs Q E hr h => ?_)
  · walk_at "len"
  · obtain ⟨p, n, rfl, hP, hn, k⟩ := h
    refine ⟨_, (pss_cons (ps_set (i := 1) sc__law_fair.nd rfl (.inl rfl) (pe_fn T.f__law_of (ok__law_of T) (hr.mono (by decide)) (pa_cons (pv 0) (pa_cons (pe_lst (pa_cons (pe_fn T.f__law_take (ok__law_take T) (hr.mono (by decide)) (pa_cons (pv 0) (pa_cons pe_int pa_nil))) (pa_cons (pe_fn T.f__law_take (ok__law_take T) (hr.mono (by decide)) (pa_cons (pv 0) (pa_cons pe_int pa_nil))) (pa_cons pe_int (pa_cons (pe_op op_add (pe_op op_powW pe_int pe_int) (pe_fn T.f__law_take (ok__law_take T) (hr.mono (by decide)) (pa_cons (pv 0) (pa_cons pe_int pa_nil)))) pa_nil))))) pa_nil))))
      (pss_one (ps_ret (pe_fn T.f__law_pair (ok__law_pair T) (hr.mono (by decide)) (pa_cons (pv 1) (pa_cons (pe_op op_add pe_int (pe_fn T.f__law_take (ok__law_take T) (hr.mono (by decide)) (pa_cons (pv 0) (pa_cons pe_int pa_nil)))) pa_nil)))))), ?_⟩
    refine My.i_go (σ' := [some _, none]) rfl ?_
    repeat walk_at "h"
    refine ⟨_, _, n, rfl, hP, by omega, by omega, by omega, fun d H1 d0 d1 P1 B1 => ?_⟩
    repeat walk_at "h"
    refine ⟨_, _, _, rfl, P1, by omega, by omega, by omega, fun d2 H2 d20 d21 P2 B2 => ?_⟩
    repeat walk_at "h"
    refine ⟨_, _, _, rfl, P2, by omega, by omega, by omega, fun d3 H3 d30 d31 P3 B3 => ?_⟩
    repeat walk_at "h"
    rename_i q H4 S4 hq4 e4
    have P4 := P3.same S4
    have hne : q ≠ p := fun z => by
      obtain ⟨_, _, _, hp, _⟩ := P3
      rw [z, hp] at hq4
      cases hq4
    refine ⟨_, _, _, _, rfl, P4, by omega, hne, .of e4, by show 0 < 4; decide, by show 4 < 1000000; decide, fun v H5 hv P5 B5 => ?_⟩
    have hv2 : ∃ i : Int, v = .int i ∧ 0 ≤ i ∧ i < 200000 := by
      have e10 : (10 : Int) ^ Int.toNat 5 = 100000 := by decide +kernel
      rw [e10] at hv
      rcases List.mem_cons.mp hv with rfl | hv
      · exact ⟨_, rfl, by omega, by omega⟩
      rcases List.mem_cons.mp hv with rfl | hv
      · exact ⟨_, rfl, by omega, by omega⟩
      rcases List.mem_cons.mp hv with rfl | hv
      · exact ⟨_, rfl, by omega, by omega⟩
      rcases List.mem_cons.mp hv with rfl | hv
      · exact ⟨_, rfl, by omega, by omega⟩
      cases hv
    obtain ⟨i, rfl, i0, i1⟩ := hv2
    repeat walk_at "h"
    refine ⟨_, _, _, rfl, P5, by omega, by omega, by omega, fun d6 H6 d60 d61 P6 B6 => ?_⟩
    repeat walk_at "h"
    refine ⟨_, _, rfl, by omega, Nat.lt_of_lt_of_le (show i.natAbs < 2 ^ 20 by omega) (Nat.pow_le_pow_right (by decide) (by decide)), Nat.lt_of_lt_of_le (show (1 + d6).natAbs < 2 ^ 20 by omega) (Nat.pow_le_pow_right (by decide) (by decide)), fun a H7 S7 ha7 e7 => ?_⟩
    have B7 : But p H H6 := (((((B1.trans B2).trans B3).trans S4.but).trans B5).trans B6)
    exact k a H7 _ (B7.trans S7.but) ((P6.same S7).mono (by omega)) (B7.free (by obtain ⟨_, _, _, hp, _⟩ := P6; exact (L2.ne_of_none hp ha7).symm) ha7) (.of e7) (div_nnI i0 (by omega)) (sz_divI (by omega) (by omega) (by omega))
theorem sc_Source___init__ : FnScope ["self", "volts", "ohms"] ["self", "volts", "ohms"] (defScope s_Source___init__) := ⟨rfl, rfl, rfl, by decide +kernel, rfl, by decide +kernel, by decide +kernel⟩
theorem ok_Source___init__ (T : Tx K mg) : FnAt P w K mg base CX0 3 (He.ma K (He.ga K "Source") "__init__") ["self", "volts", "ohms"] (spSrcInit K (He.ga K "Source")) := by
  refine T.d_Source___init__.f.ok sc_Source___init__ ?_ (fun cdv A outer s H vs Q E hr h => ?_)
  · walk_at "len"
  · obtain ⟨x, dx, a, b, v, r, rfl, hx, ha, hb, hv, hr0, k⟩ := h
    have hc := T.c_Source; have n1 := T.a_Source__volts; have n2 := T.a_Source__ohms
    refine ⟨_, (pss_cons (ps_if (pt_not (pt_val (pe_fn T.f_is_ratio (ok_is_ratio T) (hr.mono (by decide)) (pa_cons (pv 1) pa_nil)))) (pss_one ps_never) pss_nil)
      (pss_cons (ps_if (pt_not (pt_val (pe_fn T.f_is_ratio (ok_is_ratio T) (hr.mono (by decide)) (pa_cons (pv 2) pa_nil)))) (pss_one ps_never) pss_nil)
      (pss_cons (ps_fld (pv 0) (pv 1) rfl)
      (pss_one (ps_fld (pv 0) (pv 2) rfl))))), ?_⟩
    refine My.i_go (σ' := [some _, some _, some _]) rfl ?_
    repeat walk_at "h"
    refine ⟨_, _, rfl, ha, hv, ?_⟩
    repeat walk_at "h"
    refine ⟨_, _, rfl, hb, hr0, ?_⟩
    repeat walk_at "h"
    refine ⟨x, _, dx, [], rfl, hx, hc, n1, by show 0 < 1000; decide, ?_⟩
    repeat walk_at "h"
    refine ⟨x, _, dx, _, rfl, upd_same, hc, n2, by show 1 < 1000; decide, ?_⟩
    rw [upd_upd, srcF_eq]
    exact k _ But.upd upd_same
theorem sc__law_read : FnScope ["_law_heft", "_law_source"] ["_law_heft", "_law_source"] (defScope s__law_read) := ⟨rfl, rfl, rfl, by decide +kernel, rfl, by decide +kernel, by decide +kernel⟩
theorem ok__law_read (T : Tx K mg) : FnAt P w K mg base CX0 4 (He.ga K "_law_read") ["_law_heft", "_law_source"] (spRead K) := by
  refine T.f__law_read.f.ok sc__law_read ?_ (fun cdv A outer s H vs Q E hr h => ?_)
  · walk_at "len"
  · obtain ⟨a, s, g, v, r, j, rfl, ha, ⟨c, d, hs, hv, hr1, v0, r0⟩, g0, zg, zv, zr, hj, k⟩ := h
    refine ⟨_, (pss_one (ps_ret (pe_fn T.f__law_over (ok__law_over T) (hr.mono (by decide)) (pa_cons (pe_ix ix_seq (pv 1) pe_int (fun _ _ => rfl)) (pa_cons (pe_fn T.f__law_plus (ok__law_plus T) (hr.mono (by decide)) (pa_cons (pe_tup (pa_cons pe_int (pa_cons pe_int pa_nil))) (pa_cons (pe_fn T.f__law_times (ok__law_times T) (hr.mono (by decide)) (pa_cons (pe_ix ix_seq (pv 1) pe_int (fun _ _ => rfl)) (pa_cons (pv 0) pa_nil))) pa_nil))) pa_nil))))), ?_⟩
    refine My.i_go (σ' := [some _, some _]) rfl ?_
    repeat walk_at "h"
    rename_i B H1 S hB hB2 
    have hB1 : SqT K H1 _ (rat 1) := .of hB2
    refine ⟨_, _, _, _, j, rfl, S.seqT hr1, S.seqT ha, zr, zg, by omega, trivial, fun p H2 S2 hp e2 => ?_⟩
    refine ⟨_, _, (1 : Rat), _, 2 * j + 1, rfl, S2.seqT hB1, .of e2, sz_one (by omega), (zr.mul zg).mono (by omega), by omega, trivial, fun q H3 S3 hq e3 => ?_⟩
    refine ⟨_, _, _, _, 2 * j + 2 * j + 3, rfl, S3.seqT (S2.seqT (S.seqT hv)), .of e3, zv.mono (by omega), zr.weak zg, by omega, one_pos r0 g0, fun q4 H4 S4 hq4 e4 => ?_⟩
    exact k q4 H4 (((S.trans S2).trans S3).trans S4) (S.free (S2.free (S3.free hq4))) e4
theorem sc__law_near : FnScope ["_law_pot_here", "_law_source", "_law_way", "_law_part"] ["_law_pot_here", "_law_source"] (defScope s__law_near) := ⟨rfl, rfl, rfl, by decide +kernel, rfl, by decide +kernel, by decide +kernel⟩
theorem ok__law_near (T : Tx K mg) : FnAt P w K mg base CX0 4 (He.ga K "_law_near") ["_law_pot_here", "_law_source"] (spNear K) := by
  refine T.f__law_near.f.ok sc__law_near ?_ (fun cdv A outer s H vs Q E hr h => ?_)
  · walk_at "len"
  · obtain ⟨p, s, n, v, r, j, rfl, hP, hn, hA, zv, zr, j1, j2, k⟩ := h
    refine ⟨_, (pss_cons (ps_par (i := 2) (j := 3) rfl sc__law_near.nd rfl rfl (by decide) rfl rfl (pa_cons (pe_fn T.f__law_take (ok__law_take T) (hr.mono (by decide)) (pa_cons (pv 0) (pa_cons pe_int pa_nil))) (pa_cons (pe_fn T.f__law_pair (ok__law_pair T) (hr.mono (by decide)) (pa_cons (pe_op op_add pe_int (pe_fn T.f__law_take (ok__law_take T) (hr.mono (by decide)) (pa_cons (pv 0) (pa_cons pe_int pa_nil)))) (pa_cons (pe_op op_add pe_int (pe_fn T.f__law_take (ok__law_take T) (hr.mono (by decide)) (pa_cons (pv 0) (pa_cons pe_int pa_nil)))) pa_nil))) pa_nil)) rfl)
      (pss_cons (ps_if (pt_cmpR op_eq (pv 2) pe_int (nomark _)) (pss_one (ps_ret (pe_tup (pa_cons (pe_fn T.f__law_fair (ok__law_fair T) (hr.mono (by decide)) (pa_cons (pv 0) pa_nil)) (pa_cons (pe_fn T.f__law_fair (ok__law_fair T) (hr.mono (by decide)) (pa_cons (pv 0) pa_nil)) pa_nil))))) pss_nil)
      (pss_cons (ps_if (pt_cmpR op_eq (pv 2) pe_int (nomark _)) (pss_one (ps_ret (pe_tup (pa_cons (pe_ix ix_seq (pv 1) pe_int (fun _ _ => rfl)) (pa_cons (pe_fn T.f__law_times (ok__law_times T) (hr.mono (by decide)) (pa_cons (pe_ix ix_seq (pv 1) pe_int (fun _ _ => rfl)) (pa_cons (pv 3) pa_nil))) pa_nil))))) pss_nil)
      (pss_cons (ps_if (pt_cmpR op_eq (pv 2) pe_int (nomark _)) (pss_one (ps_ret (pe_tup (pa_cons (pe_fn T.f__law_times (ok__law_times T) (hr.mono (by decide)) (pa_cons (pe_ix ix_seq (pv 1) pe_int (fun _ _ => rfl)) (pa_cons (pv 3) pa_nil))) (pa_cons (pe_ix ix_seq (pv 1) pe_int (fun _ _ => rfl)) pa_nil))))) pss_nil)
      (pss_cons (ps_if (pt_cmpR op_eq (pv 2) pe_int (nomark _)) (pss_one (ps_ret (pe_tup (pa_cons (pe_fn T.f__law_times (ok__law_times T) (hr.mono (by decide)) (pa_cons (pe_ix ix_seq (pv 1) pe_int (fun _ _ => rfl)) (pa_cons (pv 3) pa_nil))) (pa_cons (pe_fn T.f__law_times (ok__law_times T) (hr.mono (by decide)) (pa_cons (pe_ix ix_seq (pv 1) pe_int (fun _ _ => rfl)) (pa_cons (pv 3) pa_nil))) pa_nil))))) pss_nil)
      (pss_one (ps_ret (pe_ifExp (pt_cmpR op_eq (pv 2) pe_int (nomark _)) (pv 1) (pe_tup (pa_cons (pe_tup (pa_cons pe_int (pa_cons pe_int pa_nil))) (pa_cons (pe_fn T.f__law_fair (ok__law_fair T) (hr.mono (by decide)) (pa_cons (pv 0) pa_nil)) pa_nil))))))))))), ?_⟩
    refine My.i_go (σ' := [some _, some _, none, none]) rfl ?_
    repeat walk_at "h"
    refine ⟨_, _, n, rfl, hP, by omega, by omega, by omega, fun d H1 d0 d1 P1 B1 => ?_⟩
    repeat walk_at "h"
    refine ⟨_, _, _, rfl, P1, by omega, by omega, by omega, fun d2 H2 d20 d21 P2 B2 => ?_⟩
    repeat walk_at "h"
    refine ⟨_, _, _, rfl, P2, by omega, by omega, by omega, fun d3 H3 d30 d31 P3 B3 => ?_⟩
    repeat walk_at "h"
    refine ⟨_, _, rfl, by omega, Nat.lt_of_lt_of_le (show (1 + d2).natAbs < 2 ^ 20 by omega) (Nat.pow_le_pow_right (by decide) (by decide)), Nat.lt_of_lt_of_le (show (1 + d3).natAbs < 2 ^ 20 by omega) (Nat.pow_le_pow_right (by decide) (by decide)), fun a H7 S7 ha7 e7 => ?_⟩
    have B7 : But p H H7 := ((B1.trans B2).trans B3).trans S7.but
    have A7 := hA.but hP B7
    have P7 := P3.same S7
    have pt : SqT K H7 a (rat (((1 + d2 : Int) : Rat) / ((1 + d3 : Int) : Rat))) := .of e7
    have pn : (0 : Rat) ≤ ((1 + d2 : Int) : Rat) / ((1 + d3 : Int) : Rat) := div_nnI (by omega) (by omega)
    have ps : Sz 20 (((1 + d2 : Int) : Rat) / ((1 + d3 : Int) : Rat)) := sz_divI (by omega) (by omega) (by omega)
    generalize ((1 + d2 : Int) : Rat) / ((1 + d3 : Int) : Rat) = part at pt pn ps e7
    repeat walk_at "h"
    obtain ⟨c1, c2, sp1, sp2, sp3, v0, r0⟩ := id A7
    refine i_eqB (fun _ => ?_) (fun _ => ?_)
    case refine_1 =>
      repeat walk_at "h"
      refine ⟨_, _, rfl, P7, by omega, fun a8 H8 q8 B8 P8 ha8 e8 q0 z8 => ?_⟩
      repeat walk_at "h"
      refine ⟨_, _, rfl, P8, by omega, fun a9 H9 q9 B9 P9 ha9 e9 q90 z9 => ?_⟩
      repeat walk_at "h"
      rename_i t H10 S10 ht0 ht
      exact k _ _ _ _ (((B7.trans B8).trans B9).trans S10.but) ((P9.same S10).mono (by omega)) ⟨_, _, .of ht, S10.seqT (P8.but B9 e8), S10.seqT e9, q0, q90⟩ (z8.mono (by omega)) (z9.mono (by omega))
    repeat walk_at "h"
    refine i_eqB (fun _ => ?_) (fun _ => ?_)
    case refine_1 =>
      repeat walk_at "h"
      refine ⟨_, _, _, _, j, rfl, sp3, pt, zr, ps.mono j1, by omega, trivial, fun a8 H8 S8 ha8 e8 => ?_⟩
      repeat walk_at "h"
      rename_i t H10 S10 ht0 ht
      exact k _ _ v (r * part) ((B7.trans S8.but).trans S10.but) (((P7.same S8).same S10).mono (by omega)) ⟨_, _, .of ht, S10.seqT (S8.seqT sp2), S10.seqT (.of e8), v0, Rat.mul_nonneg r0 pn⟩ (zv.mono (by omega)) (zr.mul (ps.mono j1))
    repeat walk_at "h"
    refine i_eqB (fun _ => ?_) (fun _ => ?_)
    case refine_1 =>
      repeat walk_at "h"
      refine ⟨_, _, _, _, j, rfl, sp2, pt, zv, ps.mono j1, by omega, trivial, fun a8 H8 S8 ha8 e8 => ?_⟩
      repeat walk_at "h"
      rename_i t H10 S10 ht0 ht
      exact k _ _ (v * part) r ((B7.trans S8.but).trans S10.but) (((P7.same S8).same S10).mono (by omega)) ⟨_, _, .of ht, S10.seqT (.of e8), S10.seqT (S8.seqT sp3), Rat.mul_nonneg v0 pn, r0⟩ (zv.mul (ps.mono j1)) (zr.mono (by omega))
    repeat walk_at "h"
    refine i_eqB (fun _ => ?_) (fun _ => ?_)
    case refine_1 =>
      repeat walk_at "h"
      refine ⟨_, _, _, _, j, rfl, sp2, pt, zv, ps.mono j1, by omega, trivial, fun a8 H8 S8 ha8 e8 => ?_⟩
      repeat walk_at "h"
      refine ⟨_, _, _, _, j, rfl, S8.seqT sp3, S8.seqT pt, zr, ps.mono j1, by omega, trivial, fun a9 H9 S9 ha9 e9 => ?_⟩
      repeat walk_at "h"
      rename_i t H10 S10 ht0 ht
      exact k _ _ (v * part) (r * part) (((B7.trans S8.but).trans S9.but).trans S10.but) ((((P7.same S8).same S9).same S10).mono (by omega)) ⟨_, _, .of ht, S10.seqT (S9.seqT (.of e8)), S10.seqT (.of e9), Rat.mul_nonneg v0 pn, Rat.mul_nonneg r0 pn⟩ (zv.mul (ps.mono j1)) (zr.mul (ps.mono j1))
    repeat walk_at "h"
    refine i_eqB (fun _ => ?_) (fun _ => ?_)
    case refine_1 =>
      repeat walk_at "h"
      exact k _ _ _ _ B7 (P7.mono (by omega)) A7 (zv.mono (by omega)) (zr.mono (by omega))
    repeat walk_at "h"
    rename_i t H8 S8 ht0 ht
    refine ⟨_, _, rfl, P7.same S8, by omega, fun a9 H9 q9 B9 P9 ha9 e9 q90 z9 => ?_⟩
    repeat walk_at "h"
    rename_i t2 H10 S10 ht20 ht2
    have e0 : SqT K H8 t (rat 0) := .of ht
    exact k _ _ _ _ (((B7.trans S8.but).trans B9).trans S10.but) ((P9.same S10).mono (by omega)) ⟨_, _, .of ht2, S10.seqT ((P7.same S8).but B9 e0), S10.seqT e9, by decide, q90⟩ (sz_zero.mono (by omega)) (z9.mono (by omega))
theorem sc__law_is_strong : FnScope ["_law_one", "_law_other"] ["_law_one", "_law_other"] (defScope s__law_is_strong) := ⟨rfl, rfl, rfl, by decide +kernel, rfl, by decide +kernel, by decide +kernel⟩
theorem ok__law_is_strong (T : Tx K mg) : FnAt P w K mg base CX0 4 (He.ga K "_law_is_strong") ["_law_one", "_law_other"] (spIsStrong K) := by
  refine T.f__law_is_strong.f.ok sc__law_is_strong ?_ (fun cdv A outer s H vs Q E hr h => ?_)
  · walk_at "len"
  · obtain ⟨s, t, v, r, w1, u, j, rfl, ⟨a, b, hs, ha, hb, v0, r0⟩, ⟨c, d, ht, hc, hd, w0, u0⟩, zv, zr, zw, zu, hj, k⟩ := h
    refine ⟨_, (pss_cons (ps_if (pt_val (pe_fn T.f__law_is_less (ok__law_is_less T) (hr.mono (by decide)) (pa_cons (pe_ix ix_seq (pv 0) pe_int (fun _ _ => rfl)) (pa_cons (pe_ix ix_seq (pv 1) pe_int (fun _ _ => rfl)) pa_nil)))) (pss_one (ps_ret pe_bl)) pss_nil)
      (pss_one (ps_ret (pe_not (pe_fn T.f__law_is_less (ok__law_is_less T) (hr.mono (by decide)) (pa_cons (pe_fn T.f__law_times (ok__law_times T) (hr.mono (by decide)) (pa_cons (pe_ix ix_seq (pv 0) pe_int (fun _ _ => rfl)) (pa_cons (pe_ix ix_seq (pv 1) pe_int (fun _ _ => rfl)) pa_nil))) (pa_cons (pe_fn T.f__law_times (ok__law_times T) (hr.mono (by decide)) (pa_cons (pe_ix ix_seq (pv 1) pe_int (fun _ _ => rfl)) (pa_cons (pe_ix ix_seq (pv 0) pe_int (fun _ _ => rfl)) pa_nil))) pa_nil))))))), ?_⟩
    refine My.i_go (σ' := [some _, some _]) rfl ?_
    repeat walk_at "h"
    refine ⟨_, _, _, _, j, rfl, ha, hc, zv, zw, by omega, ?_⟩
    repeat walk_at "h"
    have q := k
    unfold strong at q
    refine ite_d2 (fun c1 => ?_) (fun c1 => ?_)
    case refine_1 =>
      repeat walk_at "h"
      have q := q H (.refl H)
      rw [decide_eq_false (Rat.not_le.mpr c1)] at q
      exact q
    rw [decide_eq_true (Rat.not_lt.mp c1)] at q
    repeat walk_at "h"
    refine ⟨_, _, _, _, j, rfl, ha, hd, zv, zu, by omega, trivial, fun p1 H1 S1 hp1 e1 => ?_⟩
    repeat walk_at "h"
    refine ⟨_, _, _, _, j, rfl, S1.seqT hc, S1.seqT hb, zw, zr, by omega, trivial, fun p2 H2 S2 hp2 e2 => ?_⟩
    repeat walk_at "h"
    refine ⟨_, _, _, _, j + j, rfl, S2.seqT (.of e1), .of e2, zv.mul zu, zw.mul zr, by omega, ?_⟩
    repeat walk_at "h"
    have q := q H2 (S1.trans S2)
    have e3 : (!decide (v * u < w1 * r)) = (true && decide (w1 * r ≤ v * u)) := not_less
    rw [← e3] at q
    exact q
theorem sc_Source_at : FnScope ["self", "load"] ["self", "load"] (defScope s_Source_at) := ⟨rfl, rfl, rfl, by decide +kernel, rfl, by decide +kernel, by decide +kernel⟩
theorem ok_Source_at (T : Tx K mg) : FnAt P w K mg base CX0 4 (He.ma K (He.ga K "Source") "at") ["self", "load"] (spAt K (He.ga K "Source")) := by
  refine T.d_Source_at.f.ok sc_Source_at ?_ (fun cdv A outer s H vs Q E hr h => ?_)
  · walk_at "len"
  · obtain ⟨x, b, v, r, g, j, rfl, ⟨dx, c, d, hx, hv, hr1, v0, r0⟩, hb, zv, zr, zg, hj, g0, k⟩ := h
    have hc := T.c_Source; have n1 := T.a_Source__volts; have n2 := T.a_Source__ohms
    refine ⟨_, (pss_one (ps_ret (pe_fn T.f_over (ok_over T) (hr.mono (by decide)) (pa_cons (pe_fld (pv 0) rfl) (pa_cons (pe_fn T.f_weakening (ok_weakening T) (hr.mono (by decide)) (pa_cons (pe_fld (pv 0) rfl) (pa_cons (pv 1) pa_nil))) pa_nil))))), ?_⟩
    refine My.i_go (σ' := [some _, some _]) rfl ?_
    repeat walk_at "h"
    refine ⟨_, _, _, _, j, rfl, hr1, hb, zr, zg, by omega, r0, g0, fun p H1 S hp e => ?_⟩
    refine ⟨_, _, _, _, 2 * j + 2 * j + 3, rfl, S.seqT hv, .of e, zv.mono (by omega), zr.weak zg, by omega, one_pos r0 g0, fun q H2 S2 hq e2 => ?_⟩
    exact k q H2 (S.trans S2) (S.free hq) e2
theorem sc_Source___ge__ : FnScope ["self", "other"] ["self", "other"] (defScope s_Source___ge__) := ⟨rfl, rfl, rfl, by decide +kernel, rfl, by decide +kernel, by decide +kernel⟩
theorem ok_Source___ge__ (T : Tx K mg) : FnAt P w K mg base CX0 4 (He.ma K (He.ga K "Source") "__ge__") ["self", "other"] (spSrcCmp K (He.ga K "Source") strong) := by
  refine T.o_Source___ge__.f.ok sc_Source___ge__ ?_ (fun cdv A outer s H vs Q E hr h => ?_)
  · walk_at "len"
  · obtain ⟨s1, s2, v, r, w1, u, j, rfl, h1, h2, zv, zr, zw, zu, hj, k⟩ := h
    obtain ⟨dy, c, d, e2, hw, hu1, w0, u0⟩ := id h2
    refine ⟨_, (pss_cons (ps_if (pt_not (pt_val (pe_callB call_isi rfl T.b_isinstance (by decide +kernel) (pa_cons (pv 1) (pa_cons (pe_glob (v := .ref _) rfl T.k_Source.m rfl) pa_nil))))) (pss_one ps_never) pss_nil)
      (pss_one (ps_ret (pe_fn T.f_covers (ok_covers T) (hr.mono (by decide)) (pa_cons (pv 0) (pa_cons (pv 1) pa_nil)))))), ?_⟩
    refine My.i_go (σ' := [some _, some _]) rfl ?_
    repeat walk_at "h"
    refine i_isiS e2 T.c_Source T.y_Source ?_
    repeat walk_at "h"
    exact ⟨_, _, _, _, _, _, j, rfl, h1, h2, zv, zr, zw, zu, hj, k⟩
theorem sc_Source___le__ : FnScope ["self", "other"] ["self", "other"] (defScope s_Source___le__) := ⟨rfl, rfl, rfl, by decide +kernel, rfl, by decide +kernel, by decide +kernel⟩
theorem ok_Source___le__ (T : Tx K mg) : FnAt P w K mg base CX0 4 (He.ma K (He.ga K "Source") "__le__") ["self", "other"] (spSrcCmp K (He.ga K "Source") fun v r w u => strong w u v r) := by
  refine T.o_Source___le__.f.ok sc_Source___le__ ?_ (fun cdv A outer s H vs Q E hr h => ?_)
  · walk_at "len"
  · obtain ⟨s1, s2, v, r, w1, u, j, rfl, h1, h2, zv, zr, zw, zu, hj, k⟩ := h
    obtain ⟨dy, c, d, e2, hw, hu1, w0, u0⟩ := id h2
    refine ⟨_, (pss_cons (ps_if (pt_not (pt_val (pe_callB call_isi rfl T.b_isinstance (by decide +kernel) (pa_cons (pv 1) (pa_cons (pe_glob (v := .ref _) rfl T.k_Source.m rfl) pa_nil))))) (pss_one ps_never) pss_nil)
      (pss_one (ps_ret (pe_fn T.f_covers (ok_covers T) (hr.mono (by decide)) (pa_cons (pv 1) (pa_cons (pv 0) pa_nil)))))), ?_⟩
    refine My.i_go (σ' := [some _, some _]) rfl ?_
    repeat walk_at "h"
    refine i_isiS e2 T.c_Source T.y_Source ?_
    repeat walk_at "h"
    exact ⟨_, _, _, _, _, _, j, rfl, h2, h1, zw, zu, zv, zr, hj, k⟩
theorem sc__law_weak_loads : FnScope ["_law_one", "_law_other", "_law_found", "_law_many", "_law_load"] ["_law_one", "_law_other"] (defScope s__law_weak_loads) := ⟨rfl, rfl, rfl, by decide +kernel, rfl, by decide +kernel, by decide +kernel⟩
theorem ok__law_weak_loads (T : Tx K mg) : FnAt P w K mg base CX0 5 (He.ga K "_law_weak_loads") ["_law_one", "_law_other"] (spWeakLoads K) := by
  refine T.f__law_weak_loads.f.ok sc__law_weak_loads ?_ (fun cdv A outer s H vs Q E hr h => ?_)
  · walk_at "len"
  · obtain ⟨s, t, v, r, w1, u, j, rfl, h1, h2, zv, zr, zw, zu, hj, k⟩ := h
    refine ⟨_, (pss_cons (ps_set (i := 2) sc__law_weak_loads.nd rfl (.inl rfl) (pe_lst pa_nil))
      (pss_cons (ps_for PassesOwn.never rfl (pi_list (pe_lst (pa_cons pe_int (pa_cons pe_int (pa_cons pe_int (pa_cons pe_int (pa_cons pe_int (pa_cons (pe_op op_powW pe_int pe_int) (pa_cons (pe_op op_powW pe_int pe_int) (pa_cons (pe_op op_powW pe_int pe_int) (pa_cons (pe_op op_powW pe_int pe_int) (pa_cons (pe_op op_powW pe_int pe_int) pa_nil)))))))))))) (pg_name (i := 3) sc__law_weak_loads.nd rfl (.inl rfl)) (pss_cons (ps_set (i := 4) sc__law_weak_loads.nd rfl (.inl rfl) (pe_tup (pa_cons (pv 3) (pa_cons pe_int pa_nil))))
      (pss_one (ps_if (pt_val (pe_fn T.f__law_is_less (ok__law_is_less T) (hr.mono (by decide)) (pa_cons (pe_fn T.f__law_read (ok__law_read T) (hr.mono (by decide)) (pa_cons (pv 4) (pa_cons (pv 0) pa_nil))) (pa_cons (pe_fn T.f__law_read (ok__law_read T) (hr.mono (by decide)) (pa_cons (pv 4) (pa_cons (pv 1) pa_nil))) pa_nil)))) (pss_one (ps_expr (pe_bm PySem.F.plainAttrs_list PySem.F.slot_list_append PySem.F.type_list_append mt_append (pv 2) (pa_cons (pv 4) pa_nil)))) pss_nil))))
      (pss_one (ps_ret (pv 2))))), ?_⟩
    refine My.i_go (σ' := [some _, some _, none, none, none]) rfl ?_
    repeat walk_at "h"
    rename_i l H1 S1 hl0 hl q H2 S2 hq0 hq
    have hql : q ≠ l := fun z => by rw [z, hl] at hq0; cases hq0
    have hl2 := S2 _ _ hl
    refine forq_list (xs := [0, 1, 10, 100, 1000, 10000, 100000, 1000000, 10000000, 100000000].map V.int) (fun i σ H' => ∃ (v4 v5 : Option V) (xs : List V), σ = [some (.ref s), some (.ref t), some (.ref l), v4, v5] ∧ But l H2 H' ∧ H' l = some (.lst xs) ∧ xs.length ≤ i ∧ ∀ x ∈ xs, Weak K H' v r w1 u x) ⟨_, _, [], rfl, .refl _, hl2, Nat.le_refl _, fun x hx => by cases hx⟩ ?_ ?_ ?_
    · rintro i σ H' hi ⟨v4, v5, xs, rfl, B, e, h3, h4⟩
      exact .of (B _ _ hql hq)
    · rintro i x σ H3 hx ⟨v4, v5, xs, rfl, B, e, h3, h4⟩
      have hi : i < 10 := (List.getElem?_eq_some_iff.mp hx).1
      obtain ⟨m, hm, rfl⟩ := List.mem_map.mp (List.mem_of_getElem? hx)
      have hm2 : ∀ m ∈ ([0, 1, 10, 100, 1000, 10000, 100000, 1000000, 10000000, 100000000] : List Int), 0 ≤ m ∧ m < 1000000000 := by decide +kernel
      obtain ⟨m0, m1⟩ := hm2 m hm
      have g1 := ((h1.same S1).same S2).butL hl2 B
      have g2 := ((h2.same S1).same S2).butL hl2 B
      repeat walk_at "h"
      rename_i p4 H4 S4 hp4 e4
      have e5 : SqT K H4 p4 (rat (m : Rat)) := .of e4
      have gm : (0 : Rat) ≤ (m : Rat) := by exact_mod_cast m0
      have gz : Sz 40 (m : Rat) := sz_int (by omega) (by omega)
      refine ⟨_, _, _, _, _, j + 40, rfl, e5, g1.same S4, gm, gz.mono (by omega), zv.mono (by omega), zr.mono (by omega), by omega, fun p6 H6 S6 hp6 e6 => ?_⟩
      repeat walk_at "h"
      refine ⟨_, _, _, _, _, j + 40, rfl, S6.seqT e5, (g2.same S4).same S6, gm, gz.mono (by omega), zw.mono (by omega), zu.mono (by omega), by omega, fun p7 H7 S7 hp7 e7 => ?_⟩
      obtain ⟨_, _, _, _, _, v0, r0⟩ := g1
      obtain ⟨_, _, _, _, _, w0, u0⟩ := g2
      refine ⟨_, _, _, _, 8 * (j + 40) + 6, rfl, S7.seqT (.of e6), .of e7, (zv.mono (by omega)).read (zr.mono (by omega)) (gz.mono (by omega)) r0 gm, (zw.mono (by omega)).read (zu.mono (by omega)) (gz.mono (by omega)) u0 gm, by omega, ?_⟩
      have S := (S4.trans S6).trans S7
      have e8 := S _ _ e
      have B8 : But l H2 H7 := B.trans S.but
      repeat walk_at "h"
      refine ite_d2 (fun c1 => ?_) (fun c1 => ?_)
      case refine_2 =>
        repeat walk_at "h"
        exact ⟨_, _, xs, rfl, B8, e8, by omega, fun x hx => (h4 x hx).same S⟩
      repeat walk_at "h"
      refine i_app e8 (Nat.lt_of_le_of_lt h3 (Nat.lt_trans hi (by decide))) fun H9 B9 e9 => ?_
      repeat walk_at "h"
      refine ⟨_, _, _, rfl, B8.trans B9, e9, by rw [List.length_append]; exact Nat.succ_le_succ h3, fun x hx => ?_⟩
      rcases List.mem_append.mp hx with hx | hx
      · exact ((h4 x hx).same S).butL e8 B9
      · obtain rfl : x = V.ref p4 := by simpa using hx
        exact ⟨_, _, rfl, seqT_but e8 B9 (S7.seqT (S6.seqT e5)), gm, gz, c1⟩
    · rintro σ H3 ⟨v4, v5, xs, rfl, B, e, h3, h4⟩
      repeat walk_at "h"
      exact k l H3 xs (fun c o z => B c o (ne_of_none z hl0) (S2 c o (S1 c o z))) hl0 e (Nat.le_trans h3 (by decide)) h4
theorem sc__law_two_right : FnScope ["_law_pot_here", "_law_first", "_law_second", "_law_one", "_law_other", "_law_is_due", "_law_load", "_law_loads", "_law_is_both"] ["_law_pot_here", "_law_first", "_law_second"] (defScope s__law_two_right) := ⟨rfl, rfl, rfl, by decide +kernel, rfl, by decide +kernel, by decide +kernel⟩
theorem ok__law_two_right (T : Tx K mg) : FnAt P w K mg base CX0 6 (He.ga K "_law_two_right") ["_law_pot_here", "_law_first", "_law_second"] (spTwo K) := by
  refine T.f__law_two_right.f.ok sc__law_two_right ?_ (fun cdv A outer s H vs Q E hr h => ?_)
  · walk_at "len"
  · obtain ⟨p, s, t, n, v, r, w1, u, rfl, hP, hn, h1, h2, zv, zr, zw, zu, k⟩ := h
    refine ⟨_, (pss_cons (ps_asg (pe_tup (pa_cons (pe_mk T.k_Source (fm := T.d_Source___init__) (ok_Source___init__ T) (hr.mono (by decide)) (pa_cons (pe_ix ix_seq (pv 1) pe_int (fun _ _ => rfl)) (pa_cons (pe_ix ix_seq (pv 1) pe_int (fun _ _ => rfl)) pa_nil))) (pa_cons (pe_mk T.k_Source (fm := T.d_Source___init__) (ok_Source___init__ T) (hr.mono (by decide)) (pa_cons (pe_ix ix_seq (pv 2) pe_int (fun _ _ => rfl)) (pa_cons (pe_ix ix_seq (pv 2) pe_int (fun _ _ => rfl)) pa_nil))) (pa_cons (pe_fn T.f__law_is_strong (ok__law_is_strong T) (hr.mono (by decide)) (pa_cons (pv 1) (pa_cons (pv 2) pa_nil))) pa_nil)))) (pg_tup rfl (pgs_cons (pg_name (i := 3) sc__law_two_right.nd rfl (.inr rfl)) (pgs_cons (pg_name (i := 4) sc__law_two_right.nd rfl (.inr rfl)) (pgs_cons (pg_name (i := 5) sc__law_two_right.nd rfl (.inl rfl)) pgs_nil)))))
      (pss_cons (ps_if (PW.pt (pw_or (pt_cmpR op_ne (pe_callB cr_reprB rfl T.b_repr (by decide +kernel) (pa_cons (pe_cmpR (cm_own T.o_Source___ge__ rfl (fun _ _ => rfl) (ok_Source___ge__ T) (hr.mono (by decide))) (pv 3) (pv 4) (nomark _)) pa_nil)) (pe_callB cr_reprB rfl T.b_repr (by decide +kernel) (pa_cons (pv 5) pa_nil)) (nomark _)) (pw_or (pt_cmpR op_ne (pe_callB cr_reprB rfl T.b_repr (by decide +kernel) (pa_cons (pe_cmpR (cm_own T.o_Source___le__ rfl (fun _ _ => rfl) (ok_Source___le__ T) (hr.mono (by decide))) (pv 4) (pv 3) (nomark _)) pa_nil)) (pe_callB cr_reprB rfl T.b_repr (by decide +kernel) (pa_cons (pv 5) pa_nil)) (nomark _)) (pw_or1 (pt_not (pt_cmpR (cm_own T.o_Source___ge__ rfl (fun _ _ => rfl) (ok_Source___ge__ T) (hr.mono (by decide))) (pv 3) (pv 3) (nomark _))))))) (pss_one (ps_ret pe_bl)) pss_nil)
      (pss_cons (ps_if (pt_not (pt_val (pv 5))) (pss_one (ps_ret (pe_callB (cr_all rfl) rfl T.b_all (by decide +kernel) (pa_cons (pe_lc (own := [("_law_load", 6)]) rfl sc__law_two_right.nd (pi_list (pe_fn T.f__law_weak_loads (ok__law_weak_loads T) (hr.mono (by decide)) (pa_cons (pv 1) (pa_cons (pv 2) pa_nil)))) (blkOk_by (own := [("_law_load", 6)]) (N := ["_law_pot_here", "_law_first", "_law_second", "_law_one", "_law_other", "_law_is_due", "_law_load", "_law_loads", "_law_is_both"]) (sc := defScope s__law_two_right) (by decide +kernel)) (fun _ _ _ _ _ => (pg_name (i := 6) sc__law_two_right.nd rfl (.inl rfl))) (fun _ _ _ _ _ => pts_nil) (fun _ _ _ _ _ => (pe_fn T.f__law_is_less (ok__law_is_less T) (hr.mono (by decide)) (pa_cons (pe_me T.c_Source T.d_Source_at (ok_Source_at T) (hr.mono (by decide)) (pv 3) (pa_cons (pv 6) pa_nil)) (pa_cons (pe_me T.c_Source T.d_Source_at (ok_Source_at T) (hr.mono (by decide)) (pv 4) (pa_cons (pv 6) pa_nil)) pa_nil))))) pa_nil)))) pss_nil)
      (pss_cons (ps_set (i := 7) sc__law_two_right.nd rfl (.inl rfl) (pe_lst (pa_cons (pe_tup (pa_cons pe_int (pa_cons pe_int pa_nil))) (pa_cons (pe_fn T.f__law_fair (ok__law_fair T) (hr.mono (by decide)) (pa_cons (pv 0) pa_nil)) (pa_cons (pe_fn T.f__law_fair (ok__law_fair T) (hr.mono (by decide)) (pa_cons (pv 0) pa_nil)) (pa_cons (pe_tup (pa_cons (pe_op op_powW pe_int pe_int) (pa_cons pe_int pa_nil))) pa_nil))))))
      (pss_cons (ps_if (pt_val (pe_callB (cr_any rfl) rfl T.b_any (by decide +kernel) (pa_cons (pe_lc (own := [("_law_load", 6)]) rfl sc__law_two_right.nd (pi_list (pv 7)) (blkOk_by (own := [("_law_load", 6)]) (N := ["_law_pot_here", "_law_first", "_law_second", "_law_one", "_law_other", "_law_is_due", "_law_load", "_law_loads", "_law_is_both"]) (sc := defScope s__law_two_right) (by decide +kernel)) (fun _ _ _ _ _ => (pg_name (i := 6) sc__law_two_right.nd rfl (.inl rfl))) (fun _ _ _ _ _ => pts_nil) (fun _ _ _ _ _ => (pe_fn T.f__law_is_less (ok__law_is_less T) (hr.mono (by decide)) (pa_cons (pe_me T.c_Source T.d_Source_at (ok_Source_at T) (hr.mono (by decide)) (pv 3) (pa_cons (pv 6) pa_nil)) (pa_cons (pe_me T.c_Source T.d_Source_at (ok_Source_at T) (hr.mono (by decide)) (pv 4) (pa_cons (pv 6) pa_nil)) pa_nil))))) pa_nil))) (pss_one (ps_ret pe_bl)) pss_nil)
      (pss_cons (ps_set (i := 8) sc__law_two_right.nd rfl (.inl rfl) (pe_cmpR (cm_own T.o_Source___ge__ rfl (fun _ _ => rfl) (ok_Source___ge__ T) (hr.mono (by decide))) (pv 4) (pv 3) (nomark _)))
      (pss_one (ps_ret (pe_cmpR op_eq (pv 8) (pe_callB (cr_all rfl) rfl T.b_all (by decide +kernel) (pa_cons (pe_lc (own := [("_law_load", 6)]) rfl sc__law_two_right.nd (pi_tup (pe_tup (pa_cons (pe_tup (pa_cons pe_int (pa_cons pe_int pa_nil))) (pa_cons (pe_tup (pa_cons pe_int (pa_cons pe_int pa_nil))) (pa_cons (pe_tup (pa_cons pe_int (pa_cons pe_int pa_nil))) pa_nil))))) (blkOk_by (own := [("_law_load", 6)]) (N := ["_law_pot_here", "_law_first", "_law_second", "_law_one", "_law_other", "_law_is_due", "_law_load", "_law_loads", "_law_is_both"]) (sc := defScope s__law_two_right) (by decide +kernel)) (fun _ _ _ _ _ => (pg_name (i := 6) sc__law_two_right.nd rfl (.inl rfl))) (fun _ _ _ _ _ => pts_nil) (fun _ _ _ _ _ => (pe_cmpR (op_eqK (K := K) hr.units rfl) (pe_me T.c_Source T.d_Source_at (ok_Source_at T) (hr.mono (by decide)) (pv 3) (pa_cons (pv 6) pa_nil)) (pe_me T.c_Source T.d_Source_at (ok_Source_at T) (hr.mono (by decide)) (pv 4) (pa_cons (pv 6) pa_nil)) (nomark _)))) pa_nil)) (nomark _)))))))))), ?_⟩
    refine My.i_go (σ' := [some _, some _, some _, none, none, none, none, none, none]) rfl ?_
    obtain ⟨a, b, hs, ha, hb, v0, r0⟩ := id h1
    obtain ⟨c, d, ht, hc, hd, w0, u0⟩ := id h2
    repeat walk_at "h"
    refine i_mkS ha hb v0 r0 fun x1 H1 S1 hx1 A1 => ?_
    repeat walk_at "h"
    refine i_mkS (S1.seqT hc) (S1.seqT hd) w0 u0 fun x2 H2 S2 hx2 A2 => ?_
    have A1 : SrcAt K (He.ga K "Source") H2 x1 v r := A1.same S2
    have A2 : SrcAt K (He.ga K "Source") H2 x2 w1 u := A2
    repeat walk_at "h"
    refine ⟨_, _, _, _, _, _, 100, rfl, (h1.same S1).same S2, (h2.same S1).same S2, zv, zr, zw, zu, by omega, fun H3 S3 => ?_⟩
    have A1 := A1.same S3
    have A2 := A2.same S3
    have P3 : Pot H3 p n := ((hP.same S1).same S2).same S3
    have g1 := ((h1.same S1).same S2).same S3
    have g2 := ((h2.same S1).same S2).same S3
    have B3 : But p H H3 := ((S1.trans S2).trans S3).but
    have ss := @due_read v r w1 u
    have sb := @both_iff v r w1 u
    generalize hdue : strong v r w1 u = due at ss sb
    repeat walk_at "h"
    rename_i q0 H0 S0 hq0 hq
    have A1 := A1.same S0
    have A2 := A2.same S0
    have P3 := P3.same S0
    have g1 := g1.same S0
    have g2 := g2.same S0
    have B3 := B3.trans S0.but
    refine i_srcCmp A1 A2 zv zr zw zu (by omega) fun H4 S4 => ?_
    rw [hdue]
    repeat walk_at "h"
    refine i_reprB ?_
    repeat walk_at "h"
    refine i_reprB ?_
    refine i_neS rfl ?_
    repeat walk_at "h"
    refine i_srcCmp (A2.same S4) (A1.same S4) zw zu zv zr (by omega) fun H5 S5 => ?_
    rw [hdue]
    repeat walk_at "h"
    refine i_reprB ?_
    repeat walk_at "h"
    refine i_reprB ?_
    refine i_neS rfl ?_
    repeat walk_at "h"
    refine i_srcCmp ((A1.same S4).same S5) ((A1.same S4).same S5) zv zr zv zr (by omega) fun H6 S6 => ?_
    rw [strong_self]
    repeat walk_at "h"
    have S36 := (S4.trans S5).trans S6
    have A1 := A1.same S36
    have A2 := A2.same S36
    have P6 := P3.same S36
    have g1 := g1.same S36
    have g2 := g2.same S36
    have B6 := B3.trans S36.but
    clear S4 S5 S6 S36 S1 S2 S3
    cases due
    · repeat walk_at "h"
      refine ⟨_, _, _, _, _, _, 100, rfl, g1, g2, zv, zr, zw, zu, by omega, fun l H7 xs S7 hl0 hl hz hW => ?_⟩
      obtain ⟨dx1, m1, m2, f1, _⟩ := id (A1.same S7)
      obtain ⟨dx2, m3, m4, f2, _⟩ := id (A2.same S7)
      repeat walk_at "h"
      refine lcq_list (xs := xs) (fun A i H' acc => Same H7 H' ∧ H7 A = none ∧ acc = List.replicate i (.bl true)) (fun A H' S h e => ⟨S, h, rfl⟩) (fun A i H' acc _ ⟨S, _, _⟩ => .of (S _ _ hl)) ?_ ?_
      · rintro A i x H' acc hx hlen hA ⟨S, hA0, rfl⟩
        obtain ⟨g, gq, rfl, ge, g0, gz, lt⟩ := hW x (List.mem_of_getElem? hx)
        repeat walk_at "h"
        refine ⟨rfl, ?_⟩
        repeat walk_at "h"
        refine ⟨_, _, _, _, _, 100, rfl, (A1.same S7).same S, S.seqT ge, zv, zr, gz.mono (by omega), by omega, g0, fun p8 H8 S8 hp8 e8 => ?_⟩
        repeat walk_at "h"
        refine ⟨_, _, _, _, _, 100, rfl, ((A2.same S7).same S).same S8, S8.seqT (S.seqT ge), zw, zu, gz.mono (by omega), by omega, g0, fun p9 H9 S9 hp9 e9 => ?_⟩
        refine ⟨_, _, _, _, 806, rfl, S9.seqT (.of e8), .of e9, zv.read zr (gz.mono (by omega)) r0 g0, zw.read zu (gz.mono (by omega)) u0 g0, by omega, ?_⟩
        show TurnP _ A i (.bl (decide (v / (1 + r * gq) < w1 / (1 + u * gq)))) H9
        rw [decide_eq_true lt]
        have hi : i < xs.length := (List.getElem?_eq_some_iff.mp hx).1
        refine turn_end (S9 _ _ (S8 _ _ hA)) hlen (by omega) fun H5 B5 e5 => ⟨fun c o z => B5 c o (ne_of_none z hA0) (S9 _ _ (S8 _ _ (S c o z))), hA0, List.replicate_succ'.symm⟩
      · rintro A H' acc hlen hA ⟨S, hA0, rfl⟩
        repeat walk_at "h"
        refine i_all (bs := List.replicate xs.length true) (.of (by rw [List.map_replicate]; exact hA)) ?_
        rw [List.all_replicate]
        have e : (if xs.length = 0 then true else id true) = true := by split <;> rfl
        rw [e]
        exact k H' ((B6.trans S7.but).trans S.but) (((P6.same S7).same S).mono (by omega))
    · repeat walk_at "h"
      rename_i t0 H7 S7 ht0 ht
      have et0 : SqT K H7 t0 (rat 0) := .of ht
      refine ⟨_, _, rfl, P6.same S7, by omega, fun a8 H8 q8 B8 P8 ha8 e8 q80 z8 => ?_⟩
      have et0 := (P6.same S7).but B8 et0
      have A1 := (A1.same S7).but (P6.same S7) B8
      have A2 := (A2.same S7).but (P6.same S7) B8
      repeat walk_at "h"
      refine ⟨_, _, rfl, P8, by omega, fun a9 H9 q9 B9 P9 ha9 e9 q90 z9 => ?_⟩
      have et0 := P8.but B9 et0
      have e8 := P8.but B9 e8
      have A1 := A1.but P8 B9
      have A2 := A2.but P8 B9
      have B9 : But p H H9 := ((B6.trans S7.but).trans B8).trans B9
      clear B8 S7 B6
      repeat walk_at "h"
      rename_i t1 H10 S10 ht10 ht1 l H11 S11 hl0 hl
      have et1 : SqT K H10 t1 (rat (100000000 : Int)) := .of ht1
      have A1 := (A1.same S10).same S11
      have A2 := (A2.same S10).same S11
      have P11 := (P9.same S10).same S11
      have B11 := (B9.trans S10.but).trans S11.but
      have hW : ∀ x ∈ [V.ref t0, V.ref a8, V.ref a9, V.ref t1], ∃ g gq, x = .ref g ∧ SqT K H11 g (rat gq) ∧ 0 ≤ gq ∧ Sz 40 gq := by
        intro x hx
        rcases List.mem_cons.mp hx with rfl | hx
        · exact ⟨_, 0, rfl, S11.seqT (S10.seqT et0), by decide, sz_zero.mono (by omega)⟩
        rcases List.mem_cons.mp hx with rfl | hx
        · exact ⟨_, _, rfl, S11.seqT (S10.seqT e8), q80, z8.mono (by omega)⟩
        rcases List.mem_cons.mp hx with rfl | hx
        · exact ⟨_, _, rfl, S11.seqT (S10.seqT e9), q90, z9.mono (by omega)⟩
        rcases List.mem_cons.mp hx with rfl | hx
        · exact ⟨_, _, rfl, S11.seqT et1, by decide +kernel, sz_int (by decide) (by decide)⟩
        cases hx
      clear S10 S11 B9
      obtain ⟨dx1, m1, m2, f1, _⟩ := id A1
      obtain ⟨dx2, m3, m4, f2, _⟩ := id A2
      repeat walk_at "h"
      refine lcq_list (xs := [V.ref t0, V.ref a8, V.ref a9, V.ref t1]) (fun A i H' acc => Same H11 H' ∧ H11 A = none ∧ acc = List.replicate i (.bl false)) (fun A H' S h e => ⟨S, h, rfl⟩) (fun A i H' acc _ ⟨S, _, _⟩ => .of (S _ _ hl)) ?_ ?_
      · rintro A i x H' acc hx hlen hA ⟨S, hA0, rfl⟩
        obtain ⟨g, gq, rfl, ge, g0, gz⟩ := hW x (List.mem_of_getElem? hx)
        repeat walk_at "h"
        refine ⟨rfl, ?_⟩
        repeat walk_at "h"
        refine ⟨_, _, _, _, _, 100, rfl, A1.same S, S.seqT ge, zv, zr, gz.mono (by omega), by omega, g0, fun p8 H8 S8 hp8 e8 => ?_⟩
        repeat walk_at "h"
        refine ⟨_, _, _, _, _, 100, rfl, (A2.same S).same S8, S8.seqT (S.seqT ge), zw, zu, gz.mono (by omega), by omega, g0, fun p9 H9 S9 hp9 e9 => ?_⟩
        refine ⟨_, _, _, _, 806, rfl, S9.seqT (.of e8), .of e9, zv.read zr (gz.mono (by omega)) r0 g0, zw.read zu (gz.mono (by omega)) u0 g0, by omega, ?_⟩
        show TurnP _ A i (.bl (decide (v / (1 + r * gq) < w1 / (1 + u * gq)))) H9
        rw [decide_eq_false (ss (g := gq) rfl r0 u0 g0)]
        have hi : i < 4 := (List.getElem?_eq_some_iff.mp hx).1
        refine turn_end (S9 _ _ (S8 _ _ hA)) hlen (by omega) fun H5 B5 e5 => ⟨fun c o z => B5 c o (ne_of_none z hA0) (S9 _ _ (S8 _ _ (S c o z))), hA0, List.replicate_succ'.symm⟩
      · rintro A H' acc hlen hA ⟨S, hA0, rfl⟩
        repeat walk_at "h"
        refine i_any (bs := List.replicate 4 false) (.of hA) ?_
        repeat walk_at "h"
        refine iteF ?_
        repeat walk_at "h"
        have A1 := A1.same S
        have A2 := A2.same S
        have P12 := P11.same S
        have B12 := B11.trans S.but
        clear hl f1 f2 hW
        refine i_srcCmp A2 A1 zw zu zv zr (by omega) fun H13 S13 => ?_
        have A1 := A1.same S13
        have A2 := A2.same S13
        have P13 := P12.same S13
        have B13 := B12.trans S13.but
        clear S S13
        repeat walk_at "h"
        rename_i o0 H14 S14 ho0 h0 o1 H15 S15 ho1 h1 o2 H16 S16 ho2 h2 l2 H17 S17 hl20 hl2
        have S := ((S14.trans S15).trans S16).trans S17
        have x0 : SqT K H14 o0 (rat 0) := .of h0
        have x1 : SqT K H15 o1 (rat 1) := .of h1
        have x2 : SqT K H16 o2 (rat 2) := .of h2
        have x0 := S17.seqT (S16.seqT (S15.seqT x0))
        have x1 := S17.seqT (S16.seqT x1)
        have x2 := S17.seqT x2
        have A1 := A1.same S
        have A2 := A2.same S
        have P17 := P13.same S
        have B17 := B13.trans S.but
        clear S14 S15 S16 S17 S
        have hW : ∀ (i : Nat) (x : V), [V.ref o0, V.ref o1, V.ref o2][i]? = some x → ∃ g gq, x = .ref g ∧ SqT K H17 g (rat gq) ∧ 0 ≤ gq ∧ Sz 40 gq ∧ ([0, 1, 2] : List Rat)[i]? = some gq := by
          intro i x hx
          match i with
          | 0 => exact ⟨o0, 0, (Option.some.inj hx).symm, x0, by decide, sz_zero.mono (by omega), rfl⟩
          | 1 => exact ⟨o1, 1, (Option.some.inj hx).symm, x1, by decide, sz_one (by omega), rfl⟩
          | 2 => exact ⟨o2, 2, (Option.some.inj hx).symm, x2, by decide, ⟨by decide, by decide⟩, rfl⟩
          | n + 3 => cases hx
        obtain ⟨dx1, m1, m2, f1, _⟩ := id A1
        obtain ⟨dx2, m3, m4, f2, _⟩ := id A2
        repeat walk_at "h"
        refine lcq_tup (xs := [V.ref o0, V.ref o1, V.ref o2]) (fun A i H' acc => Same H17 H' ∧ H17 A = none ∧ acc = (([0, 1, 2] : List Rat).take i).map fun g => V.bl (decide (v / (1 + r * g) = w1 / (1 + u * g)))) (fun A H' S h e => ⟨S, h, rfl⟩) (fun A i H' acc _ ⟨S, _, _⟩ => S.seqT (.of hl2)) ?_ ?_
        · rintro A i x H' acc hx hlen hA ⟨S, hA0, rfl⟩
          have hi : i < 3 := (List.getElem?_eq_some_iff.mp hx).1
          obtain ⟨g, gq, rfl, ge, g0, gz, gi⟩ := hW i x hx
          repeat walk_at "h"
          refine ⟨rfl, ?_⟩
          repeat walk_at "h"
          refine ⟨_, _, _, _, _, 100, rfl, A1.same S, S.seqT ge, zv, zr, gz.mono (by omega), by omega, g0, fun p8 H8 S8 hp8 e8 => ?_⟩
          repeat walk_at "h"
          refine ⟨_, _, _, _, _, 100, rfl, (A2.same S).same S8, S8.seqT (S.seqT ge), zw, zu, gz.mono (by omega), by omega, g0, fun p9 H9 S9 hp9 e9 => ?_⟩
          refine i_eqDR (S9.seqT (.of e8)) (.of e9) ?_
          refine turn_end (S9 _ _ (S8 _ _ hA)) hlen (by omega) fun H5 B5 e5 => ⟨fun c o z => B5 c o (ne_of_none z hA0) (S9 _ _ (S8 _ _ (S c o z))), hA0, ?_⟩
          rw [List.take_add_one, gi, List.map_append]
          rfl
        · rintro A H' acc hlen hA ⟨S, hA0, rfl⟩
          repeat walk_at "h"
          refine i_all (bs := ([0, 1, 2] : List Rat).map fun g => decide (v / (1 + r * g) = w1 / (1 + u * g))) (.of hA) ?_
          refine i_eqBl ?_
          have e : (strong w1 u v r == (([0, 1, 2] : List Rat).map fun g => decide (v / (1 + r * g) = w1 / (1 + u * g))).all id) = true := by
            rw [sb rfl r0 u0, beq_iff_eq]
            simp [List.all]
          rw [e]
          exact k H' (B17.trans S.but) ((P17.same S).mono (by omega))
theorem sc__law_right : FnScope ["_law_pot_here", "_law_first", "_law_second", "_law_third", "_law_one", "_law_other", "_law_rows", "_law_volts", "_law_ohms"] ["_law_pot_here"] (defScope s__law_right) := ⟨rfl, rfl, rfl, by decide +kernel, rfl, by decide +kernel, by decide +kernel⟩
theorem ok__law_right (T : Tx K mg) : FnAt P w K mg base CX0 7 (He.ga K "_law_right") ["_law_pot_here"] (spRound 150) := by
  refine T.f__law_right.f.ok sc__law_right ?_ (fun cdv A outer s H vs Q E hr h => ?_)
  · walk_at "len"
  · obtain ⟨p, n, rfl, hP, hn, k⟩ := h
    refine ⟨_, (pss_cons (ps_set (i := 1) sc__law_right.nd rfl (.inl rfl) (pe_tup (pa_cons (pe_fn T.f__law_fair (ok__law_fair T) (hr.mono (by decide)) (pa_cons (pv 0) pa_nil)) (pa_cons (pe_fn T.f__law_fair (ok__law_fair T) (hr.mono (by decide)) (pa_cons (pv 0) pa_nil)) pa_nil))))
      (pss_cons (ps_set (i := 2) sc__law_right.nd rfl (.inl rfl) (pe_fn T.f__law_near (ok__law_near T) (hr.mono (by decide)) (pa_cons (pv 0) (pa_cons (pv 1) pa_nil))))
      (pss_cons (ps_set (i := 3) sc__law_right.nd rfl (.inl rfl) (pe_fn T.f__law_near (ok__law_near T) (hr.mono (by decide)) (pa_cons (pv 0) (pa_cons (pv 2) pa_nil))))
      (pss_cons (ps_for PassesOwn.never rfl (pi_tup (pe_tup (pa_cons (pe_tup (pa_cons (pv 1) (pa_cons (pv 2) pa_nil))) (pa_cons (pe_tup (pa_cons (pv 2) (pa_cons (pv 1) pa_nil))) (pa_cons (pe_tup (pa_cons (pv 2) (pa_cons (pv 3) pa_nil))) (pa_cons (pe_tup (pa_cons (pv 1) (pa_cons (pv 3) pa_nil))) (pa_cons (pe_tup (pa_cons (pv 3) (pa_cons (pv 1) pa_nil))) pa_nil))))))) (pg_tup rfl (pgs_cons (pg_name (i := 4) sc__law_right.nd rfl (.inl rfl)) (pgs_cons (pg_name (i := 5) sc__law_right.nd rfl (.inl rfl)) pgs_nil))) (pss_one (ps_if (pt_not (pt_val (pe_fn T.f__law_two_right (ok__law_two_right T) (hr.mono (by decide)) (pa_cons (pv 0) (pa_cons (pv 4) (pa_cons (pv 5) pa_nil)))))) (pss_one (ps_ret pe_bl)) pss_nil)))
      (pss_cons (ps_setLc (i := 6) (own := [("_law_volts", 7), ("_law_ohms", 8)]) rfl sc__law_right.nd rfl rfl (sw_true rfl rfl rfl (by decide +kernel)) (pi_tup (pe_tup (pa_cons (pv 1) (pa_cons (pv 2) (pa_cons (pv 3) pa_nil))))) (blkOk_by (own := [("_law_volts", 7), ("_law_ohms", 8)]) (N := ["_law_pot_here", "_law_first", "_law_second", "_law_third", "_law_one", "_law_other", "_law_rows", "_law_volts", "_law_ohms"]) (sc := defScope s__law_right) (by decide +kernel)) (fun _ _ _ _ _ => (pg_tupK (K := K) (n := 2) rfl rfl (pgs_cons (pg_name (i := 7) sc__law_right.nd rfl (.inl rfl)) (pgs_cons (pg_name (i := 8) sc__law_right.nd rfl (.inl rfl)) pgs_nil)))) (fun _ _ _ _ _ => pts_nil) (fun _ _ _ _ _ => (pe_mkK (K := K) rfl T.k_Source (fm := T.d_Source___init__) (ok_Source___init__ T) (hr.mono (by decide)) (pa_cons (pv 7) (pa_cons (pv 8) pa_nil)))))
      (pss_one (ps_ret (pe_or (pe_cmpR (cm_own T.o_Source___ge__ rfl (fun _ _ => rfl) (ok_Source___ge__ T) (hr.mono (by decide))) (pe_ix ix_seq (pv 6) pe_int (fun _ _ => rfl)) (pe_ix ix_seq (pv 6) pe_int (fun _ _ => rfl)) (nomark _)) (pe_or (pe_not (pe_cmpR (cm_own T.o_Source___ge__ rfl (fun _ _ => rfl) (ok_Source___ge__ T) (hr.mono (by decide))) (pe_ix ix_seq (pv 6) pe_int (fun _ _ => rfl)) (pe_ix ix_seq (pv 6) pe_int (fun _ _ => rfl)) (nomark _))) (pe_one (pe_not (pe_cmpR (cm_own T.o_Source___ge__ rfl (fun _ _ => rfl) (ok_Source___ge__ T) (hr.mono (by decide))) (pe_ix ix_seq (pv 6) pe_int (fun _ _ => rfl)) (pe_ix ix_seq (pv 6) pe_int (fun _ _ => rfl)) (nomark _))))))))))))), ?_⟩
    refine My.i_go (σ' := [some _, none, none, none, none, none, none, none, none]) rfl ?_
    repeat walk_at "h"
    refine ⟨_, _, rfl, hP, by omega, fun a1 H1 v1 B1 P1 ha1 e1 v10 z1 => ?_⟩
    repeat walk_at "h"
    refine ⟨_, _, rfl, P1, by omega, fun b1 H2 r1 B2 P2 hb1 e2 r10 y1 => ?_⟩
    repeat walk_at "h"
    rename_i f1 H3 S3 hf1 hf
    have A1 : PairAt K H3 f1 v1 r1 := ⟨_, _, .of hf, S3.seqT (P1.but B2 e1), S3.seqT e2, v10, r10⟩
    have P3 := P2.same S3
    have B3 := (B1.trans B2).trans S3.but
    refine ⟨_, _, _, _, _, 20, rfl, P3, by omega, A1, z1, y1, by omega, by omega, fun f2 H4 v2 r2 B4 P4 A2 z2 y2 => ?_⟩
    have A1 := A1.but P3 B4
    repeat walk_at "h"
    refine ⟨_, _, _, _, _, 40, rfl, P4, by omega, A2, z2, y2, by omega, by omega, fun f3 H5 v3 r3 B5 P5 A3 z3 y3 => ?_⟩
    have A1 := A1.but P4 B5
    have A2 := A2.but P4 B5
    have B5 := (B3.trans B4).trans B5
    have z1 := z1.mono (k := 100) (by omega); have y1 := y1.mono (k := 100) (by omega)
    have z2 := z2.mono (k := 100) (by omega); have y2 := y2.mono (k := 100) (by omega)
    have z3 := z3.mono (k := 100) (by omega); have y3 := y3.mono (k := 100) (by omega)
    clear S3 B1 B2 B4 B3 P1 P2 P3 P4
    repeat walk_at "h"
    rename_i t1 G1 T1 _ u1 t2 G2 T2 _ u2 t3 G3 T3 _ u3 t4 G4 T4 _ u4 t5 G5 T5 _ u5 t6 G6 T6 _ u6
    have S := ((((T1.trans T2).trans T3).trans T4).trans T5).trans T6
    have A1 := A1.same S
    have A2 := A2.same S
    have A3 := A3.same S
    have P6 := P5.same S
    have B6 := B5.trans S.but
    have hW : ∀ x ∈ [V.ref t1, V.ref t2, V.ref t3, V.ref t4, V.ref t5], ∃ t a b va ra vb rb, x = .ref t ∧ SqT K G6 t [.ref a, .ref b] ∧ PairAt K G6 a va ra ∧ PairAt K G6 b vb rb ∧ Sz 100 va ∧ Sz 100 ra ∧ Sz 100 vb ∧ Sz 100 rb := by
      intro x hx
      rcases List.mem_cons.mp hx with rfl | hx
      · exact ⟨_, _, _, _, _, _, _, rfl, (((((T2.trans T3).trans T4).trans T5).trans T6)).seqT (.of u1), A1, A2, z1, y1, z2, y2⟩
      rcases List.mem_cons.mp hx with rfl | hx
      · exact ⟨_, _, _, _, _, _, _, rfl, ((((T3).trans T4).trans T5).trans T6).seqT (.of u2), A2, A1, z2, y2, z1, y1⟩
      rcases List.mem_cons.mp hx with rfl | hx
      · exact ⟨_, _, _, _, _, _, _, rfl, (((T4).trans T5).trans T6).seqT (.of u3), A2, A3, z2, y2, z3, y3⟩
      rcases List.mem_cons.mp hx with rfl | hx
      · exact ⟨_, _, _, _, _, _, _, rfl, ((T5).trans T6).seqT (.of u4), A1, A3, z1, y1, z3, y3⟩
      rcases List.mem_cons.mp hx with rfl | hx
      · exact ⟨_, _, _, _, _, _, _, rfl, (T6).seqT (.of u5), A3, A1, z3, y3, z1, y1⟩
      cases hx
    clear S T1 T2 T3 T4 T5 T6 B5
    refine forq_tup (xs := [V.ref t1, V.ref t2, V.ref t3, V.ref t4, V.ref t5]) (fun i σ H' => ∃ v4 v5 : Option V, σ = [some (.ref p), some (.ref f1), some (.ref f2), some (.ref f3), v4, v5, none, none, none] ∧ But p G6 H' ∧ Pot H' p (n + 50 + 20 * i)) ⟨none, none, rfl, .refl _, P6.mono (by omega)⟩ ?_ ?_ ?_
    · rintro i σ H' hi ⟨v4, v5, rfl, B, P⟩
      exact P6.but B (.of u6)
    · rintro i x σ H' hx ⟨v4, v5, rfl, B, P⟩
      have hi : i < 5 := (List.getElem?_eq_some_iff.mp hx).1
      obtain ⟨t, a, b, va, ra, vb, rb, rfl, ht, Pa, Pb, w1, w2, w3, w4⟩ := hW x (List.mem_of_getElem? hx)
      have ht := P6.but B ht
      repeat walk_at "h"
      refine ⟨_, _, _, _, _, _, _, _, rfl, P, by omega, Pa.but P6 B, Pb.but P6 B, w1, w2, w3, w4, fun H2 B2 P2 => ?_⟩
      repeat walk_at "h"
      exact ⟨_, _, rfl, B.trans B2, P2.mono (by omega)⟩
    · rintro σ H' ⟨v4, v5, rfl, B, P⟩
      have A1 := A1.but P6 B
      have A2 := A2.but P6 B
      have A3 := A3.but P6 B
      have P := P.mono (m := n + 150) (by show n + 50 + 20 * ((5 : Nat) : Int) ≤ n + 150; omega)
      have B6 := B6.trans B
      clear hW P6 B u1 u2 u3 u4 u5 u6
      repeat walk_at "h"
      rename_i l H2 S2 hl0 hl
      have A1 := A1.same S2
      have A2 := A2.same S2
      have A3 := A3.same S2
      have P := P.same S2
      have B6 := B6.trans S2.but
      clear S2
      have hW : ∀ (i : Nat) (x : V), [V.ref f1, V.ref f2, V.ref f3][i]? = some x → ∃ f v r, x = .ref f ∧ PairAt K H2 f v r ∧ [(v1, r1), (v2, r2), (v3, r3)][i]? = some (v, r) := by
        intro i x hx
        match i with
        | 0 => exact ⟨f1, _, _, (Option.some.inj hx).symm, A1, rfl⟩
        | 1 => exact ⟨f2, _, _, (Option.some.inj hx).symm, A2, rfl⟩
        | 2 => exact ⟨f3, _, _, (Option.some.inj hx).symm, A3, rfl⟩
        | n + 3 => cases hx
      refine lcq_tup (xs := [V.ref f1, V.ref f2, V.ref f3]) (fun A i H' acc => Same H2 H' ∧ H2 A = none ∧ ∀ (j : Nat) (x : V), acc[j]? = some x → ∃ s v r, x = .ref s ∧ SrcAt K (He.ga K "Source") H' s v r ∧ [(v1, r1), (v2, r2), (v3, r3)][j]? = some (v, r)) (fun A H' S h e => ⟨S, h, fun j x hx => by cases hx⟩) (fun A i H' acc _ ⟨S, _, _⟩ => S.seqT (.of hl)) ?_ ?_
      · rintro A i x H3 acc hx hlen hA ⟨S, hA0, hacc⟩
        have hi : i < 3 := (List.getElem?_eq_some_iff.mp hx).1
        obtain ⟨f, v, r, rfl, hf, gi⟩ := hW i x hx
        obtain ⟨a, b, hs, ha, hb, v0, r0⟩ := hf.same S
        repeat walk_at "h"
        refine ⟨rfl, ?_⟩
        repeat walk_at "h"
        refine i_mkS ha hb v0 r0 fun s H4 S4 hs0 hS => ?_
        have hA4 := S4 _ _ hA
        refine turn_end hA4 hlen (by omega) fun H5 B5 e5 => ⟨fun c o z => B5 c o (ne_of_none z hA0) (S4 _ _ (S c o z)), hA0, fun j y hy => ?_⟩
        rcases Nat.lt_or_ge j acc.length with hj | hj
        · rw [List.getElem?_append_left hj] at hy
          obtain ⟨s', v', r', e', hS', g'⟩ := hacc j y hy
          exact ⟨s', v', r', e', (hS'.same S4).butL hA4 B5, g'⟩
        · rw [List.getElem?_append_right hj] at hy
          have hj0 : j - acc.length < 1 := (List.getElem?_eq_some_iff.mp hy).1
          obtain rfl : j = i := by omega
          rw [hlen, Nat.sub_self] at hy
          obtain rfl : V.ref s = y := Option.some.inj hy
          exact ⟨s, v, r, rfl, hS.butL hA4 B5, gi⟩
      · rintro A H3 acc hlen hA ⟨S, hA0, hacc⟩
        obtain ⟨x0, x1, x2, rfl⟩ : ∃ x0 x1 x2, acc = [x0, x1, x2] := by
          match acc, hlen with
          | [a, b, c], _ => exact ⟨a, b, c, rfl⟩
        obtain ⟨s1, _, _, rfl, C1, g⟩ := hacc 0 _ rfl
        cases g
        obtain ⟨s2, _, _, rfl, C2, g⟩ := hacc 1 _ rfl
        cases g
        obtain ⟨s3, _, _, rfl, C3, g⟩ := hacc 2 _ rfl
        cases g
        have P := P.same S
        have B6 := B6.trans S.but
        clear hacc hW S
        repeat walk_at "h"
        refine i_srcCmp C1 C3 z1 y1 z3 y3 (by omega) fun H4 S4 => ?_
        repeat walk_at "h"
        refine ite_b (fun _ => ?_) (fun d1 => ?_)
        · exact k H4 (B6.trans S4.but) (P.same S4)
        repeat walk_at "h"
        refine i_srcCmp (C1.same S4) (C2.same S4) z1 y1 z2 y2 (by omega) fun H5 S5 => ?_
        repeat walk_at "h"
        refine ite_nb (fun _ => ?_) (fun d2 => ?_)
        · exact k H5 ((B6.trans S4.but).trans S5.but) ((P.same S4).same S5)
        repeat walk_at "h"
        refine i_srcCmp ((C2.same S4).same S5) ((C3.same S4).same S5) z2 y2 z3 y3 (by omega) fun H6 S6 => ?_
        repeat walk_at "h"
        have d3 : strong v2 r2 v3 r3 = false := by
          cases e : strong v2 r2 v3 r3 with
          | false => rfl
          | true =>
            obtain ⟨_, _, _, _, _, _, p1, _⟩ := C1
            obtain ⟨_, _, _, _, _, _, p2, _⟩ := C2
            obtain ⟨_, _, _, _, _, _, p3, q3⟩ := C3
            rw [strong_trans d2 e p1 p2 p3 q3] at d1
            cases d1
        rw [d3]
        exact k H6 (((B6.trans S4.but).trans S5.but).trans S6.but) (((P.same S4).same S5).same S6)
theorem sc_law : FnScope ["_law_script", "_law_place", "_law_pot_here", "_law_lap"] ["_law_script"] (defScope s_law) := ⟨rfl, rfl, rfl, by decide +kernel, rfl, by decide +kernel, by decide +kernel⟩
theorem ok_law (T : Tx K mg) : FnAt P w K mg base CX0 8 (He.ga K "law") ["_law_script"] (spLaw K) := by
  refine T.f_law.f.ok sc_law ?_ (fun cdv A outer s H vs Q E hr h => ?_)
  · walk_at "len"
  · obtain ⟨a, ns, rfl, hS, hn, k⟩ := h
    refine ⟨_, (pss_cons (ps_for PassesOwn.never rfl (pi_list (pe_fn T.f__law_cells (ok__law_cells T) (hr.mono (by decide)) (pa_cons (pv 0) (pa_cons pe_int pa_nil)))) (pg_name (i := 1) sc_law.nd rfl (.inl rfl)) (pss_cons (ps_set (i := 2) sc_law.nd rfl (.inr rfl) (pe_fn T.f__law_pot (ok__law_pot T) (hr.mono (by decide)) (pa_cons (pv 0) (pa_cons (pv 1) pa_nil))))
      (pss_one (ps_if (pt_not (pt_val (pe_callB (cr_all rfl) rfl T.b_all (by decide +kernel) (pa_cons (pe_lc (own := [("_law_lap", 3)]) rfl sc_law.nd (pi_range1 rfl T.b_range (pa_cons pe_int pa_nil)) (blkOk_by (own := [("_law_lap", 3)]) (N := ["_law_script", "_law_place", "_law_pot_here", "_law_lap"]) (sc := defScope s_law) (by decide +kernel)) (fun _ _ _ _ _ => (pg_name (i := 3) sc_law.nd rfl (.inl rfl))) (fun _ _ _ _ _ => pts_nil) (fun _ _ _ _ _ => (pe_fn T.f__law_right (ok__law_right T) (hr.mono (by decide)) (pa_cons (pv 2) pa_nil)))) pa_nil)))) (pss_one (ps_ret pe_bl)) pss_nil))))
      (pss_one (ps_ret pe_bl))), ?_⟩
    refine My.i_go (σ' := [some _, none, none, none]) rfl ?_
    repeat walk_at "h"
    refine ⟨_, _, _, rfl, hS, hn, by omega, fun q H1 j hj S1 hq0 hq => ?_⟩
    repeat walk_at "h"
    have hS1 := S1.seq hS
    refine forq_list (xs := rgV 0 j) (fun i σ H' => ∃ v2 v3 v4 : Option V, σ = [some (.ref a), v2, v3, v4] ∧ Same H1 H') ⟨_, _, _, rfl, .refl _⟩ ?_ ?_ ?_
    · rintro i σ H' hi ⟨v2, v3, v4, rfl, S⟩
      exact .of (S _ _ hq)
    · rintro i x σ H' hx ⟨v2, v3, v4, rfl, S⟩
      obtain ⟨rfl, hi⟩ := rgV_at hx
      repeat walk_at "h"
      refine ⟨_, _, _, rfl, S.seq hS1, by omega, by omega, fun p H2 S2 hp P => ?_⟩
      have SS := S.trans S2
      have hp1 := S.free hp
      repeat walk_at "h"
      refine lcq_range (n := 6) (fun A i H' acc => Same H1 H' ∧ Pot H' p (150 * i) ∧ p ≠ A ∧ H1 A = none ∧ acc = List.replicate i (.bl true)) (fun A H' S h e => ⟨SS.trans S, (P.same S).mono (by omega), P.ne h, SS.free h, rfl⟩) ?_ ?_
      · rintro A i H3 acc hi hlen hA ⟨S3, P3, hne, hA1, rfl⟩
        repeat walk_at "h"
        refine ⟨rfl, ?_⟩
        repeat walk_at "h"
        refine ⟨_, _, rfl, P3, by omega, fun H4 B4 P4 => ?_⟩
        refine turn_end (B4 _ _ hne.symm hA) hlen (by omega) fun H5 B5 e5 => ⟨fun c o z => B5 c o (ne_of_none z hA1) (B4 c o (ne_of_none z hp1) (S3 c o z)), (P4.butA hne B5).mono (by omega), hne, hA1, List.replicate_succ'.symm⟩
      · rintro A H3 acc hlen hA ⟨S3, P3, hne, hA1, rfl⟩
        repeat walk_at "h"
        refine i_all (bs := List.replicate 6 true) (.of hA) ?_
        repeat walk_at "h"
        refine iteF ?_
        repeat walk_at "h"
        exact ⟨_, _, _, rfl, S3⟩
    · rintro σ H' ⟨v2, v3, v4, rfl, S⟩
      repeat walk_at "h"
      exact k H'
end
/-! ### the end -/
def ds : List Df := [⟨fun K => He.ga K "_wall", "_wall", "_wall", s__wall⟩, ⟨fun K => He.ga K "is_integer", "is_integer", "is_integer", s_is_integer⟩, ⟨fun K => He.ga K "is_ratio", "is_ratio", "is_ratio", s_is_ratio⟩, ⟨fun K => He.ga K "ratio", "ratio", "ratio", s_ratio⟩, ⟨fun K => He.ga K "plus", "plus", "plus", s_plus⟩, ⟨fun K => He.ga K "times", "times", "times", s_times⟩, ⟨fun K => He.ga K "over", "over", "over", s_over⟩, ⟨fun K => He.ga K "at_least", "at_least", "at_least", s_at_least⟩, ⟨fun K => He.ga K "weakening", "weakening", "weakening", s_weakening⟩, ⟨fun K => He.ga K "repeated", "repeated", "repeated", s_repeated⟩, ⟨fun K => He.ga K "covers", "covers", "covers", s_covers⟩, ⟨fun K => He.ga K "_law_pot", "_law_pot", "_law_pot", s__law_pot⟩, ⟨fun K => He.ga K "_law_take", "_law_take", "_law_take", s__law_take⟩, ⟨fun K => He.ga K "_law_of", "_law_of", "_law_of", s__law_of⟩, ⟨fun K => He.ga K "_law_cells", "_law_cells", "_law_cells", s__law_cells⟩, ⟨fun K => He.ga K "_law_common", "_law_common", "_law_common", s__law_common⟩, ⟨fun K => He.ga K "_law_pair", "_law_pair", "_law_pair", s__law_pair⟩, ⟨fun K => He.ga K "_law_plus", "_law_plus", "_law_plus", s__law_plus⟩, ⟨fun K => He.ga K "_law_times", "_law_times", "_law_times", s__law_times⟩, ⟨fun K => He.ga K "_law_over", "_law_over", "_law_over", s__law_over⟩, ⟨fun K => He.ga K "_law_is_less", "_law_is_less", "_law_is_less", s__law_is_less⟩, ⟨fun K => He.ga K "_law_read", "_law_read", "_law_read", s__law_read⟩, ⟨fun K => He.ga K "_law_fair", "_law_fair", "_law_fair", s__law_fair⟩, ⟨fun K => He.ga K "_law_near", "_law_near", "_law_near", s__law_near⟩, ⟨fun K => He.ga K "_law_is_strong", "_law_is_strong", "_law_is_strong", s__law_is_strong⟩, ⟨fun K => He.ga K "_law_weak_loads", "_law_weak_loads", "_law_weak_loads", s__law_weak_loads⟩, ⟨fun K => He.ga K "_law_two_right", "_law_two_right", "_law_two_right", s__law_two_right⟩, ⟨fun K => He.ga K "_law_right", "_law_right", "_law_right", s__law_right⟩, ⟨fun K => He.ga K "law", "law", "law", s_law⟩, ⟨fun K => He.ma K (He.ga K "Source") "__init__", "__init__", "Source.__init__", s_Source___init__⟩, ⟨fun K => gtOf K (He.ma K (He.ga K "Source") "volts"), "volts", "Source.volts", s_Source_volts⟩, ⟨fun K => gtOf K (He.ma K (He.ga K "Source") "ohms"), "ohms", "Source.ohms", s_Source_ohms⟩, ⟨fun K => He.ma K (He.ga K "Source") "at", "at", "Source.at", s_Source_at⟩, ⟨fun K => He.ma K (He.ga K "Source") "under", "under", "Source.under", s_Source_under⟩, ⟨fun K => He.ma K (He.ga K "Source") "__add__", "__add__", "Source.__add__", s_Source___add__⟩, ⟨fun K => He.ma K (He.ga K "Source") "__and__", "__and__", "Source.__and__", s_Source___and__⟩, ⟨fun K => He.ma K (He.ga K "Source") "__mul__", "__mul__", "Source.__mul__", s_Source___mul__⟩, ⟨fun K => He.ma K (He.ga K "Source") "__rmul__", "__rmul__", "Source.__rmul__", s_Source___rmul__⟩, ⟨fun K => He.ma K (He.ga K "Source") "__ge__", "__ge__", "Source.__ge__", s_Source___ge__⟩, ⟨fun K => He.ma K (He.ga K "Source") "__le__", "__le__", "Source.__le__", s_Source___le__⟩, ⟨fun K => He.ma K (He.ga K "Source") "__eq__", "__eq__", "Source.__eq__", s_Source___eq__⟩]
def fa : List He.Fa := [.glo "_wall", .glo "is_integer", .glo "is_ratio", .glo "ratio", .glo "plus", .glo "times", .glo "over", .glo "at_least", .glo "weakening", .glo "repeated", .glo "covers", .glo "_law_pot", .glo "_law_take", .glo "_law_of", .glo "_law_cells", .glo "_law_common", .glo "_law_pair", .glo "_law_plus", .glo "_law_times", .glo "_law_over", .glo "_law_is_less", .glo "_law_read", .glo "_law_fair", .glo "_law_near", .glo "_law_is_strong", .glo "_law_weak_loads", .glo "_law_two_right", .glo "_law_right", .glo "law", .free "list", .free "any", .free "isinstance", .free "int", .free "range", .free "abs", .free "all", .free "bool", .free "tuple", .free "len", .free "max", .free "repr", .free "min", .cls "Source", .glo "Source", .mkr "Source", .noat "Source" "_volts", .noat "Source" "_ohms", .meth "Source" "__init__", .meth "Source" "at", .meth "Source" "under", .meth "Source" "__add__", .meth "Source" "__and__", .meth "Source" "__mul__", .meth "Source" "__rmul__", .meth "Source" "__ge__", .meth "Source" "__le__", .meth "Source" "__eq__", .glo "ONE"]
def exs (K : PySem.W.Frag) : List Bool := [bltB K "gcd" "math.gcd", PySem.W.selfFirst K (He.ga K "Source"), propB K "Source" "volts", propB K "Source" "ohms", He.tupB K "ONE" [.int 1, .int 1], insB K "Source"]
def ex (K : PySem.W.Frag) : Bool := fa.all (He.Fa.ok K) && (exs K).all id
theorem tx {K : PySem.W.Frag} {h : Heap} {mg : Str → Option Value} (X : K.In h) (G : h.Ns mainGlobals mg) (c : obsK ex ds K = valK ds) : Tx K mg := by
  obtain ⟨e1, e2⟩ := He.ba (says_ex c)
  have E0 : bltB K "gcd" "math.gcd" = true := all_get e2 0 rfl
  have E1 : PySem.W.selfFirst K (He.ga K "Source") = true := all_get e2 1 rfl
  have E2 : propB K "Source" "volts" = true := all_get e2 2 rfl
  have E3 : propB K "Source" "ohms" = true := all_get e2 3 rfl
  have E4 : He.tupB K "ONE" [.int 1, .int 1] = true := all_get e2 4 rfl
  have E5 : insB K "Source" = true := all_get e2 5 rfl
  exact {
    f__wall := gfn_of X G (all_get e1 0 rfl) (says_fun c 0 rfl) (fun _ _ _ _ _ _ us hl => match us, hl with | [_], _ => rfl)
    f_is_integer := gfn_of X G (all_get e1 1 rfl) (says_fun c 1 rfl) (fun _ _ _ _ _ _ us hl => match us, hl with | [_], _ => rfl)
    f_is_ratio := gfn_of X G (all_get e1 2 rfl) (says_fun c 2 rfl) (fun _ _ _ _ _ _ us hl => match us, hl with | [_], _ => rfl)
    f_ratio := gfn_of X G (all_get e1 3 rfl) (says_fun c 3 rfl) (fun _ _ _ _ _ _ us hl => match us, hl with | [_, _], _ => rfl)
    f_plus := gfn_of X G (all_get e1 4 rfl) (says_fun c 4 rfl) (fun _ _ _ _ _ _ us hl => match us, hl with | [_, _], _ => rfl)
    f_times := gfn_of X G (all_get e1 5 rfl) (says_fun c 5 rfl) (fun _ _ _ _ _ _ us hl => match us, hl with | [_, _], _ => rfl)
    f_over := gfn_of X G (all_get e1 6 rfl) (says_fun c 6 rfl) (fun _ _ _ _ _ _ us hl => match us, hl with | [_, _], _ => rfl)
    f_at_least := gfn_of X G (all_get e1 7 rfl) (says_fun c 7 rfl) (fun _ _ _ _ _ _ us hl => match us, hl with | [_, _], _ => rfl)
    f_weakening := gfn_of X G (all_get e1 8 rfl) (says_fun c 8 rfl) (fun _ _ _ _ _ _ us hl => match us, hl with | [_, _], _ => rfl)
    f_repeated := gfn_of X G (all_get e1 9 rfl) (says_fun c 9 rfl) (fun _ _ _ _ _ _ us hl => match us, hl with | [_, _], _ => rfl)
    f_covers := gfn_of X G (all_get e1 10 rfl) (says_fun c 10 rfl) (fun _ _ _ _ _ _ us hl => match us, hl with | [_, _], _ => rfl)
    f__law_pot := gfn_of X G (all_get e1 11 rfl) (says_fun c 11 rfl) (fun _ _ _ _ _ _ us hl => match us, hl with | [_, _], _ => rfl)
    f__law_take := gfn_of X G (all_get e1 12 rfl) (says_fun c 12 rfl) (fun _ _ _ _ _ _ us hl => match us, hl with | [_, _], _ => rfl)
    f__law_of := gfn_of X G (all_get e1 13 rfl) (says_fun c 13 rfl) (fun _ _ _ _ _ _ us hl => match us, hl with | [_, _], _ => rfl)
    f__law_cells := gfn_of X G (all_get e1 14 rfl) (says_fun c 14 rfl) (fun _ _ _ _ _ _ us hl => match us, hl with | [_, _], _ => rfl)
    f__law_common := gfn_of X G (all_get e1 15 rfl) (says_fun c 15 rfl) (fun _ _ _ _ _ _ us hl => match us, hl with | [_, _], _ => rfl)
    f__law_pair := gfn_of X G (all_get e1 16 rfl) (says_fun c 16 rfl) (fun _ _ _ _ _ _ us hl => match us, hl with | [_, _], _ => rfl)
    f__law_plus := gfn_of X G (all_get e1 17 rfl) (says_fun c 17 rfl) (fun _ _ _ _ _ _ us hl => match us, hl with | [_, _], _ => rfl)
    f__law_times := gfn_of X G (all_get e1 18 rfl) (says_fun c 18 rfl) (fun _ _ _ _ _ _ us hl => match us, hl with | [_, _], _ => rfl)
    f__law_over := gfn_of X G (all_get e1 19 rfl) (says_fun c 19 rfl) (fun _ _ _ _ _ _ us hl => match us, hl with | [_, _], _ => rfl)
    f__law_is_less := gfn_of X G (all_get e1 20 rfl) (says_fun c 20 rfl) (fun _ _ _ _ _ _ us hl => match us, hl with | [_, _], _ => rfl)
    f__law_read := gfn_of X G (all_get e1 21 rfl) (says_fun c 21 rfl) (fun _ _ _ _ _ _ us hl => match us, hl with | [_, _], _ => rfl)
    f__law_fair := gfn_of X G (all_get e1 22 rfl) (says_fun c 22 rfl) (fun _ _ _ _ _ _ us hl => match us, hl with | [_], _ => rfl)
    f__law_near := gfn_of X G (all_get e1 23 rfl) (says_fun c 23 rfl) (fun _ _ _ _ _ _ us hl => match us, hl with | [_, _], _ => rfl)
    f__law_is_strong := gfn_of X G (all_get e1 24 rfl) (says_fun c 24 rfl) (fun _ _ _ _ _ _ us hl => match us, hl with | [_, _], _ => rfl)
    f__law_weak_loads := gfn_of X G (all_get e1 25 rfl) (says_fun c 25 rfl) (fun _ _ _ _ _ _ us hl => match us, hl with | [_, _], _ => rfl)
    f__law_two_right := gfn_of X G (all_get e1 26 rfl) (says_fun c 26 rfl) (fun _ _ _ _ _ _ us hl => match us, hl with | [_, _, _], _ => rfl)
    f__law_right := gfn_of X G (all_get e1 27 rfl) (says_fun c 27 rfl) (fun _ _ _ _ _ _ us hl => match us, hl with | [_], _ => rfl)
    f_law := gfn_of X G (all_get e1 28 rfl) (says_fun c 28 rfl) (fun _ _ _ _ _ _ us hl => match us, hl with | [_], _ => rfl)
    b_list := He.free_ok X G (all_get e1 29 rfl)
    b_any := He.free_ok X G (all_get e1 30 rfl)
    b_isinstance := He.free_ok X G (all_get e1 31 rfl)
    b_int := He.free_ok X G (all_get e1 32 rfl)
    b_range := He.free_ok X G (all_get e1 33 rfl)
    b_abs := He.free_ok X G (all_get e1 34 rfl)
    b_all := He.free_ok X G (all_get e1 35 rfl)
    b_bool := He.free_ok X G (all_get e1 36 rfl)
    b_tuple := He.free_ok X G (all_get e1 37 rfl)
    b_len := He.free_ok X G (all_get e1 38 rfl)
    b_max := He.free_ok X G (all_get e1 39 rfl)
    b_repr := He.free_ok X G (all_get e1 40 rfl)
    b_min := He.free_ok X G (all_get e1 41 rfl)
    b_gcd := bltB_ok X G (E0)
    c_Source := He.cls_ok (all_get e1 42 rfl)
    k_Source := gmk_of X G (all_get e1 43 rfl) (all_get e1 44 rfl)
    s_Source := E1
    a_Source__volts := He.noat_ok (all_get e1 45 rfl)
    a_Source__ohms := He.noat_ok (all_get e1 46 rfl)
    d_Source___init__ := gme_of (all_get e1 47 rfl) (says_fun c 29 rfl) (fun _ _ _ _ _ _ us hl => match us, hl with | [_, _, _], _ => rfl)
    p_Source_volts := gpr_of (E2) (says_fun c 30 rfl) (fun _ _ _ _ _ _ us hl => match us, hl with | [_], _ => rfl)
    p_Source_ohms := gpr_of (E3) (says_fun c 31 rfl) (fun _ _ _ _ _ _ us hl => match us, hl with | [_], _ => rfl)
    d_Source_at := gme_of (all_get e1 48 rfl) (says_fun c 32 rfl) (fun _ _ _ _ _ _ us hl => match us, hl with | [_, _], _ => rfl)
    d_Source_under := gme_of (all_get e1 49 rfl) (says_fun c 33 rfl) (fun _ _ _ _ _ _ us hl => match us, hl with | [_, _], _ => rfl)
    o_Source___add__ := gop_of (all_get e1 50 rfl) (says_fun c 34 rfl) (fun _ _ _ _ _ _ us hl => match us, hl with | [_, _], _ => rfl)
    o_Source___and__ := gop_of (all_get e1 51 rfl) (says_fun c 35 rfl) (fun _ _ _ _ _ _ us hl => match us, hl with | [_, _], _ => rfl)
    o_Source___mul__ := gop_of (all_get e1 52 rfl) (says_fun c 36 rfl) (fun _ _ _ _ _ _ us hl => match us, hl with | [_, _], _ => rfl)
    o_Source___rmul__ := gop_of (all_get e1 53 rfl) (says_fun c 37 rfl) (fun _ _ _ _ _ _ us hl => match us, hl with | [_, _], _ => rfl)
    o_Source___ge__ := gop_of (all_get e1 54 rfl) (says_fun c 38 rfl) (fun _ _ _ _ _ _ us hl => match us, hl with | [_, _], _ => rfl)
    o_Source___le__ := gop_of (all_get e1 55 rfl) (says_fun c 39 rfl) (fun _ _ _ _ _ _ us hl => match us, hl with | [_, _], _ => rfl)
    o_Source___eq__ := gop_of (all_get e1 56 rfl) (says_fun c 40 rfl) (fun _ _ _ _ _ _ us hl => match us, hl with | [_, _], _ => rfl)
    m_ONE := He.glo_ok X G (all_get e1 57 rfl)
    t_ONE := He.tupB_ok (E4)
    y_Source := insB_ok (E5)
  }
abbrev RR : PySem.W.OpenRow := PySem.W.OpenLaw.row PySem.Challenge.rw_rangehunt_k03_whole_sources_beside_all_l
def loose : List Str := (["gcd", "_wall", "__name__", "is_integer", "is_ratio", "ratio", "plus", "times", "over", "at_least", "MeterError", "BadRatio", "Short", "BadMany", "ONE", "weakening", "repeated", "covers", "Source", "_law_pot", "_law_take", "_law_of", "_law_cells", "_law_common", "_law_pair", "_law_plus", "_law_times", "_law_over", "_law_is_less", "_law_read"] : List Str) ++ (["_law_fair", "_law_near", "_law_is_strong", "_law_weak_loads", "_law_two_right", "_law_right"] : List Str)
theorem run (w : World) : HandSHeadRun.RunEqI RR (PySem.W.view RR.prog [39]) (hook 6 ex ds) (obT 6 ex ds) 6000 loose w := by
  unfold HandSHeadRun.RunEqI
  kernel_rfl
theorem law_fd {K : PySem.W.Frag} {mg : Str → Option Value} (T : Tx K mg) : ∀ (s : Shared) (v : Value), BindsTo s (fdOf K (He.ga K "law")) ⟨[v], []⟩ [("_law_script", v)] := by
  obtain ⟨oc, od, kV, doc, pm, an, cdv, ct, osl, e, hl, hc⟩ := T.f_law.f.ex
  have F : FunD K "law" "law" (defArgs s_law) (defBody s_law) (defScope s_law) [] [] (He.ga K "law") (fdOf K (He.ga K "law")) := ⟨⟨oc, od, .none, kV, doc, pm, an, cdv, ct, osl, e, hl, hc, .inl ⟨rfl, rfl⟩, .inl rfl⟩, T.f_law.f.kp⟩
  have b := FunD.bindsA (ps := ["_law_script"]) F fun _ _ _ _ _ _ us hl => match us, hl with | [_], _ => rfl
  exact fun s v => b s [v] rfl
end Lw
open PySem PySem.W PySem.Calls PyProof.Rows
theorem PySem.Challenge.cw_rangehunt_k03_whole_sources_beside_all_l_holds : PySem.Challenge.rw_rangehunt_k03_whole_sources_beside_all_l.Holds := by
  w_on; o_law
  refine HandSHeadRun.head_imp (r := OpenLaw.row PySem.Challenge.rw_rangehunt_k03_whole_sources_beside_all_l) (q := view (OpenLaw.row PySem.Challenge.rw_rangehunt_k03_whole_sources_beside_all_l).prog [39]) (H := My.hook 6 Lw.ex Lw.ds) (ob := My.obT 6 Lw.ex Lw.ds) (M := 6000) (loose := Lw.loose) (d := HandSHeadRun.topDef (OpenLaw.row PySem.Challenge.rw_rangehunt_k03_whole_sources_beside_all_l).prog 39) (kwd := []) My.obT_eq
    Lw.run (by kernel_rfl) (by kernel_rfl) (by kernel_rfl) (by rfl) (by first | assumption | decide +kernel) (by decide +kernel) ⟨rfl, rfl, rfl, rfl, rfl, by decide +kernel⟩ ?hw ?hc
  case hw => w_witness2
  case hc =>
    refine L2.walk_ofE (l := PySem.Challenge.rw_rangehunt_k03_whole_sources_beside_all_l) (n := 63) (k := 8) (x := "_law_script") (CX := L2.CX0) rfl (by decide) (by kernel_rfl) ⟨rfl, by decide, by decide⟩ ?F (fun _ _ _ _ z => z)
    intro w mg fa h Y G hmg0
    obtain ⟨K, KX, c⟩ := Y
    have T := Lw.tx KX G c
    have hmg : mg ("law" : PySem.Str) = some (.ref fa) := by
      have e : (HandSHeadRun.topDef (OpenLaw.row PySem.Challenge.rw_rangehunt_k03_whole_sources_beside_all_l).prog 39).name = ("law" : PySem.Str) := by kernel_rfl
      rw [← e]
      exact hmg0
    have e := hmg.symm.trans T.f_law.m
    cases e
    exact ⟨K, _, My.spLaw K, KX, Lw.law_fd T, fun H a ns hn _ hS => ⟨a, ns, rfl, hS, hn, fun _ => rfl⟩, fun base _ _ => Lw.ok_law T⟩

