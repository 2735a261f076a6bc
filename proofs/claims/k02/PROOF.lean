import PyProof.Rows.All
import Wide.All
import OpenK.AllK
import Wide.FinOn
import PyProof.EqAt
import PyProof.EqKinds
import PyProof.TupleCall
import PyProof.InstNe
import KE.RegKIsAll
import HandS.ForMost
import HandS.Wide
import HandS.IsInst
import HandS.OwnEq
import HandS.Star
import HandS.Property
import HandS.Defaults
import HandS.WordsExc
import HandS.ExcOwn
import HandS.TupLe
import HandS.SortKw
import KE.KMinBuiltin
import HandS.TryOnly
import HandS.ExcIs
import HandS.CallLocal
import HandS.Walk
import PySem.Challenge.RW_ringindexes_k02_forms_compared
set_option Elab.async false
set_option linter.all false
set_option maxRecDepth 100000
set_option maxHeartbeats 40000000
/-! ## steps of readings: each lemma opens one construct -/
namespace Rd
open PySem PySem.Spec PyProof.Rows L2

section
variable {σ : L2.St} {H : Hp} {Q : VK} {D : Ends} {K : PySem.W.Frag}
theorem seq {t u : TS} (h : t { D with nx := u D } σ H) : tSeq t u D σ H := h
theorem next (h : D.nx σ H) : tNext D σ H := h
theorem drop {te : TE} (h : te σ H fun _ H1 => D.nx σ H1) : tDrop te D σ H := h
theorem ret {te : TE} (h : te σ H D.rt) : tRet te D σ H := h
theorem retN (h : D.rt .non H) : tRetN D σ H := h
theorem brk (h : D.bk σ H) : tBreak D σ H := h
theorem cont (h : D.ct σ H) : tCont D σ H := h
theorem ifS {c : TT} {t u : TS} (h : c σ H fun b H1 => if b = true then t D σ H1 else u D σ H1) : tIfS c t u D σ H := h
theorem asg {te : TE} {g : TG} (h : te σ H fun x H1 => g x σ H1 D.nx) : tAsg te g D σ H := h
theorem name {i : Nat} {v : V} {q : L2.St → Hp → Prop} (h : q (σ.set i (some v)) H) : gName i v σ H q := h
theorem par {i j : Nat} {ta : TA} (h : ta σ H fun vs H1 => ∃ v w, vs = [v, w] ∧ D.nx ((σ.set i (some v)).set j (some w)) H1) : tPar i j ta D σ H := h
theorem par2 {i j : Nat} {v w : V} (h : D.nx ((σ.set i (some v)).set j (some w)) H) : ∃ v' w', [v, w] = [v', w'] ∧ D.nx ((σ.set i (some v')).set j (some w')) H := ⟨v, w, rfl, h⟩
theorem var {i : Nat} {v : V} (e : σ[i]? = some (some v)) (h : Q v H) : tVar i σ H Q := ⟨v, e, h⟩
theorem c {v : V} (h : Q v H) : tC v σ H Q := h
theorem op {r : R2} {ta tb : TE} (h : ta σ H fun x H1 => tb σ H1 fun y H2 => r x y H2 Q) : tOp r ta tb σ H Q := h
theorem un {r : V → Hp → VK → Prop} {ta : TE} (h : ta σ H fun x H1 => r x H1 Q) : tUn r ta σ H Q := h
theorem i0 {g : Int → Int → V} {i j : Int} (h : Q (g i j) H) : rI0 g (.int i) (.int j) H Q := ⟨i, j, rfl, rfl, h⟩
theorem iC {C : Int → Int → Prop} {g : Int → Int → V} {i j : Int} (e : C i j) (h : Q (g i j) H) : rI C g (.int i) (.int j) H Q := ⟨i, j, rfl, rfl, e, h⟩
theorem iU {g : Int → V} {i : Int} (h : Q (g i) H) : rU g (.int i) H Q := ⟨i, rfl, h⟩
theorem eqS {x y : V} (e : scal x y = true) (h : Q (.bl (decide (x = y))) H) : rEq x y H Q := ⟨e, h⟩
theorem neS {x y : V} (e : scal x y = true) (h : Q (.bl (!decide (x = y))) H) : rNe x y H Q := ⟨e, h⟩
theorem addS {i j : Str} (e : i.length + j.length ≤ sizeLine) (h : Q (.str (i ++ j)) H) : ∃ a b, V.str i = .str a ∧ V.str j = .str b ∧ a.length + b.length ≤ sizeLine ∧ Q (.str (a ++ b)) H := ⟨i, j, rfl, rfl, e, h⟩
theorem isN {x : V} (h : Q (.bl (decide (x = .non))) H) : V.non = .non ∧ Q (.bl (decide (x = .non))) H := ⟨rfl, h⟩
theorem notN {x : V} (h : Q (.bl (!decide (x = .non))) H) : V.non = .non ∧ Q (.bl (!decide (x = .non))) H := ⟨rfl, h⟩
theorem chain {r r' : R2} {ta tb tc : TE} (h : ta σ H fun x H1 => tb σ H1 fun y H2 => r x y H2 fun z H3 => ∃ k, z = .bl k ∧ (if k = true then tc σ H3 fun w' H4 => r' y w' H4 Q else Q (.bl false) H3)) : tChain r r' ta tb tc σ H Q := h
theorem bl {k : Bool} {A : Bool → Prop} (h : A k) : ∃ c, V.bl k = .bl c ∧ A c := ⟨k, rfl, h⟩
theorem test {t : TE} {q : Bool → Hp → Prop} (h : t σ H fun x H' => ∃ k, x = .bl k ∧ q k H') : tTest t σ H q := h
theorem tb {t : TE} {q : Bool → Hp → Prop} (h : t σ H fun x H' => ∃ k, x = .bl k ∧ q k H') : tB t σ H q := h
theorem and {t u : TT} {q : Bool → Hp → Prop} (h : t σ H fun c H1 => if c = true then u σ H1 q else q false H1) : tAnd t u σ H q := h
theorem or {t u : TT} {q : Bool → Hp → Prop} (h : t σ H fun c H1 => if c = true then q true H1 else u σ H1 q) : tOr t u σ H q := h
theorem not {t : TT} {q : Bool → Hp → Prop} (h : t σ H fun c H1 => q (!c) H1) : tNot t σ H q := h
theorem andV {ta tb : TE} (h : ta σ H fun x H1 => ∃ c, x = .bl c ∧ if c = true then tb σ H1 Q else Q (.bl false) H1) : tAndV ta tb σ H Q := h
theorem orV {ta tb : TE} (h : ta σ H fun x H1 => ∃ c, x = .bl c ∧ if c = true then Q (.bl true) H1 else tb σ H1 Q) : tOrV ta tb σ H Q := h
theorem notV {ta : TE} (h : ta σ H fun x H1 => ∃ c, x = .bl c ∧ Q (.bl (!c)) H1) : tNotV ta σ H Q := h
theorem ifE {t : TT} {ta tb : TE} (h : t σ H fun c H1 => if c = true then ta σ H1 Q else tb σ H1 Q) : tIf t ta tb σ H Q := h
theorem nil {q : List V → Hp → Prop} (h : q [] H) : tNil σ H q := h
theorem cons {ta : TE} {tr : TA} {q : List V → Hp → Prop} (h : ta σ H fun x H1 => tr σ H1 fun xs H2 => q (x :: xs) H2) : tCons ta tr σ H q := h
theorem cB {r : List V → Hp → VK → Prop} {t : TA} (h : t σ H fun vs H1 => r vs H1 Q) : tCB r t σ H Q := h
theorem tup {t : TA} (h : t σ H fun xs H1 => xs.length ≤ sizeLine ∧ ∀ p, H1 p = none → Q (.ref p) (upd H1 p (.tup xs))) : tTup t σ H Q := h
theorem lst {t : TA} (h : t σ H fun xs H1 => xs.length ≤ sizeLine ∧ ∀ p, H1 p = none → Q (.ref p) (upd H1 p (.lst xs))) : tLst t σ H Q := h
theorem laid {xs : List V} {A : Addr → Prop} (e : xs.length ≤ 1000) (h : ∀ p, H p = none → A p) : xs.length ≤ sizeLine ∧ ∀ p, H p = none → A p := ⟨Nat.le_of_lt (small1000 e), h⟩
theorem call {sp : Sp} {dvs : List V} {E : XK} {t : TA} (h : t σ H fun vs H1 => sp (vs ++ dvs) H1 Q E) : tCall sp dvs E t σ H Q := h
theorem meth {C : Addr} {m : Str} {sp : Sp} {dvs : List V} {E : XK} {ta : TE} {t : TA} (h : ta σ H fun x H1 => ∃ a dx fs, x = .ref a ∧ H1 a = some (.ins C dx fs) ∧ fs.lookup m = none ∧ t σ H1 fun vs H2 => sp (x :: (vs ++ dvs)) H2 Q E) : tMeth C m sp dvs E ta t σ H Q := h
theorem meth2 {C a dx : Addr} {fs : List (Str × V)} {m : Str} {A : Prop} (e : H a = some (.ins C dx fs)) (l : fs.lookup m = none) (h : A) : ∃ a' dx fs, V.ref a = .ref a' ∧ H a' = some (.ins C dx fs) ∧ fs.lookup m = none ∧ A := ⟨a, dx, fs, rfl, e, l, h⟩
theorem make {C : Addr} {sp : Sp} {dvs : List V} {E : XK} {t : TA} (h : t σ H fun vs H1 => ∀ x dx, H1 x = none → H1 dx = none → dx ≠ x → sp (.ref x :: (vs ++ dvs)) (upd (upd H1 dx (.own x)) x (.ins C dx [])) (fun v H2 => v = .non ∧ Q (.ref x) H2) E) : tMake C sp dvs E t σ H Q := h
theorem fld {ta : TE} {f : Str} (h : ta σ H fun x H1 => ∃ a C dx fs v, x = .ref a ∧ H1 a = some (.ins C dx fs) ∧ Cls K C ∧ NoAttr K C f ∧ fs.lookup f = some v ∧ Q v H1) : tFld K ta f σ H Q := h
theorem fld2 {f : Str} {a C dx : Addr} {fs : List (Str × V)} {v : V} (e : H a = some (.ins C dx fs)) (k : Cls K C) (n : NoAttr K C f) (l : fs.lookup f = some v) (h : Q v H) :
    ∃ a' C' dx fs v, V.ref a = .ref a' ∧ H a' = some (.ins C' dx fs) ∧ Cls K C' ∧ NoAttr K C' f ∧ fs.lookup f = some v ∧ Q v H := ⟨a, C, dx, fs, v, rfl, e, k, n, l, h⟩
theorem sfld {ta tv : TE} {f : Str} (h : tv σ H fun y H1 => ta σ H1 fun x H2 => ∃ a C dx fs, x = .ref a ∧ H2 a = some (.ins C dx fs) ∧ Cls K C ∧ NoAttr K C f ∧ fs.length < 1000 ∧ D.nx σ (upd H2 a (.ins C dx (putF f y fs)))) : sFld K ta tv f D σ H := h
theorem gnil {q : L2.St → Hp → Prop} (h : q σ H) : gNil [] σ H q := ⟨rfl, h⟩
theorem gcons {t : TG} {u : TGs} {v : V} {r : List V} {q : L2.St → Hp → Prop} (h : t v σ H fun σ' H' => u r σ' H' q) : gCons t u (v :: r) σ H q := ⟨v, r, rfl, h⟩
theorem gtup {n : Nat} {t : TGs} {a : Addr} {xs : List V} {q : L2.St → Hp → Prop} (e : SqT K H a xs) (l : xs.length = n) (h : t xs σ H q) : gTup K n t (.ref a) σ H q := ⟨a, xs, rfl, e, l, h⟩
theorem fr {wi : TI} {g : TG} {tb : TS} (h : wi σ H fun J H1 => ∃ W : Nat → Nat → L2.St → Hp → Prop, (∃ m, W 0 m σ H1) ∧ ∀ i m σ H, W i m σ H →
    (J.stop i H ∧ D.nx σ H) ∨ (J.go i H ∧ ∃ N : L2.St → Hp → Prop, (∀ σ' H', N σ' H' → ∃ m', m' < m ∧ W (i + 1) m' σ' H') ∧ ∀ x H', J.yld i H x H' → g x σ H' fun σ2 H2 => tb { D with nx := N, ct := N, bk := D.nx } σ2 H2)) : tFor wi g tb D σ H := h
theorem rng1 {ta : TA} {R : It → Hp → Prop} (h : ta σ H fun vs H1 => ∃ j : Int, vs = [.int j] ∧ -(2 ^ 62) ≤ j ∧ j < 2 ^ 62 ∧ R (Itr 0 j.toNat) H1) : iRng1 ta σ H R := h
theorem prop {C : Addr} {sp : Sp} {dvs : List V} {E : XK} {ta : TE} (h : ta σ H fun x H1 => ∃ a dx fs, x = .ref a ∧ H1 a = some (.ins C dx fs) ∧ sp (.ref a :: dvs) H1 Q E) : tProp C sp dvs E ta σ H Q := h
theorem aug {i : Nat} {te : TE} {ti : TIp} {x : V} (e : σ[i]? = some (some x)) (h : te σ H fun y H1 => ti x y H1 fun z H2 => D.nx (σ.set i (some z)) H2) : tAug i te ti D σ H := ⟨x, e, h⟩
theorem ipI {f : Int → Int → Int} {i j : Int} (h : Q (.int (f i j)) H) : L2.ipI f (.int i) (.int j) H Q := ⟨i, j, rfl, rfl, h⟩
theorem ixL {a : Addr} {xs : List V} {i : Int} {v : V} (e : SqL K H a xs) (l : atI xs i = some v) (h : Q v H) : rIxL K (.ref a) (.int i) H Q := ⟨a, xs, i, v, rfl, rfl, e, l, h⟩
theorem ixT {a : Addr} {xs : List V} {i : Int} {v : V} (e : SqT K H a xs) (l : atI xs i = some v) (h : Q v H) : rIxT K (.ref a) (.int i) H Q := ⟨a, xs, i, v, rfl, rfl, e, l, h⟩
theorem setL {a : Addr} {xs : List V} {k : Int} {j : Nat} {v : V} {q : Hp → Prop} (e : H a = some (.lst xs)) (l : ixN xs.length k = some j) (h : q (upd H a (.lst (xs.set j v)))) : rSetL (.ref a) (.int k) v H q := ⟨a, xs, k, j, rfl, rfl, e, l, h⟩
theorem sub {to ti : TE} {t : TSet} {v : V} {q : L2.St → Hp → Prop} (h : to σ H fun o H1 => ti σ H1 fun i H2 => t o i v H2 fun H3 => q σ H3) : gSub to ti t v σ H q := h
theorem lenQ {a : Addr} {xs : List V} (e : SqL K H a xs ∨ SqT K H a xs) (h : Q (.int xs.length) H) : ∃ p ys, [V.ref a] = [.ref p] ∧ (SqL K H p ys ∨ SqT K H p ys) ∧ Q (.int ys.length) H := ⟨a, xs, rfl, e, h⟩
theorem absI {i : Int} (h : Q (.int (if i < 0 then -i else i)) H) : ∃ j, [V.int i] = [.int j] ∧ Q (.int (if j < 0 then -j else j)) H := ⟨i, rfl, h⟩
theorem intI {i : Int} (h : Q (.int i) H) : (∃ j, [V.int i] = [.int j] ∧ Q (.int j) H) ∨ ∃ k, [V.int i] = [.bl k] ∧ Q (.int (if k then 1 else 0)) H := .inl ⟨i, rfl, h⟩
theorem ite {c A B : Prop} [Decidable c] (h1 : c → A) (h2 : ¬ c → B) : if c then A else B := by
  by_cases h : c
  · rw [if_pos h]; exact h1 h
  · rw [if_neg h]; exact h2 h
theorem iteT {b : Bool} {A B : Prop} (e : b = true) (h : A) : if b = true then A else B := by rw [if_pos e]; exact h
theorem iteF {b : Bool} {A B : Prop} (e : b = false) (h : B) : if b = true then A else B := by rw [e]; exact h
theorem andB {c d : Bool} {t : TE} (h1 : ∀ Q' : VK, Q' (.bl d) H → t σ H Q') (h : Q (.bl (c && d)) H) : if c = true then t σ H Q else Q (.bl false) H := by
  cases c with
  | true => exact h1 Q h
  | false => exact h
theorem orB {c d : Bool} {t : TE} (h1 : ∀ Q' : VK, Q' (.bl d) H → t σ H Q') (h : Q (.bl (c || d)) H) : if c = true then Q (.bl true) H else t σ H Q := by
  cases c with
  | true => exact h
  | false => exact h1 Q h
end
theorem lput {f : Str} {v : V} {fs : List (Str × V)} {n : Nat} (h : fs.length + 1 < n) : (putF f v fs).length < n := Nat.lt_of_le_of_lt (by have := length_putF f v fs; omega) h
theorem lputs {f : Str} {v : V} {fs : List (Str × V)} {n k : Nat} (h : fs.length + (k + 1) < n) : (putF f v fs).length + k < n := Nat.lt_of_le_of_lt (by have := length_putF f v fs; omega) h
theorem ty_tup {K : PySem.W.Frag} {H : Hp} {a : Addr} {xs : List V} (e : H a = some (.tup xs)) : TyX K H (.ref a) (.type "tuple") := .base (.tup e)
theorem ty_lst {K : PySem.W.Frag} {H : Hp} {a : Addr} {xs : List V} (e : H a = some (.lst xs)) : TyX K H (.ref a) (.type "list") := .base (.lst e)
section
variable {K : PySem.W.Frag}
theorem kit_int_int : PySem.W.kitOne K (.type "int") (.type "int") = some true := kit_ty (by decide +kernel)
theorem kit_bool_int : PySem.W.kitOne K (.type "bool") (.type "int") = some true := kit_ty (by decide +kernel)
theorem kit_str_int : PySem.W.kitOne K (.type "str") (.type "int") = some false := kit_ty (by decide +kernel)
theorem kit_none_int : PySem.W.kitOne K (.type "NoneType") (.type "int") = some false := kit_ty (by decide +kernel)
theorem kit_tuple_int : PySem.W.kitOne K (.type "tuple") (.type "int") = some false := kit_ty (by decide +kernel)
theorem kit_list_int : PySem.W.kitOne K (.type "list") (.type "int") = some false := kit_ty (by decide +kernel)
theorem kit_dict_int : PySem.W.kitOne K (.type "dict") (.type "int") = some false := kit_ty (by decide +kernel)
theorem kit_int_bool : PySem.W.kitOne K (.type "int") (.type "bool") = some false := kit_ty (by decide +kernel)
theorem kit_bool_bool : PySem.W.kitOne K (.type "bool") (.type "bool") = some true := kit_ty (by decide +kernel)
theorem kit_str_bool : PySem.W.kitOne K (.type "str") (.type "bool") = some false := kit_ty (by decide +kernel)
theorem kit_str_str : PySem.W.kitOne K (.type "str") (.type "str") = some true := kit_ty (by decide +kernel)
theorem kit_int_str : PySem.W.kitOne K (.type "int") (.type "str") = some false := kit_ty (by decide +kernel)
end
end Rd


/-! ## the operators of own classes, as rules of the layer -/
namespace Own
open PySem PySem.Spec PyProof.Rows L2
section
variable {X : Cx} {pins : List (Addr × Obj)} {σ : L2.St} {H : Hp} {s : Shared}
/-- a value of the layer is never the sign of a declined operator -/
theorem not_declined {v : V} {u : Value} (r : RelV v u) : u ≠ .notImplemented := by
  intro e
  subst e
  cases v with
  | non => cases (show Value.notImplemented = Value.none from r)
  | bl b => cases (show Value.notImplemented = Value.bool b from r)
  | int i => obtain ⟨t, q⟩ := (show ∃ t, Value.notImplemented = Value.int i t from r); cases q
  | str i => obtain ⟨t, q⟩ := (show ∃ t, Value.notImplemented = Value.str i t from r); cases q
  | byt i => obtain ⟨t, q⟩ := (show ∃ t, Value.notImplemented = Value.bytes i t from r); cases q
  | flt i => obtain ⟨t, q⟩ := (show ∃ t, Value.notImplemented = Value.float i t from r); cases q
  | ref a => cases (show Value.notImplemented = Value.ref a from r)
  | ty n => cases (show Value.notImplemented = Value.type n from r)
theorem back {M : Model} {A : Around} {E : Value → Shared → Prop} {m : Sem Value} {Q : VK} (h : wpAny M A m (EP X pins σ Q) E s) : wpAny M A m (PySem.W.CmpBack (EP X pins σ Q)) E s :=
  wpAny_mono h (fun u s' q => by
    have n : u ≠ .notImplemented := by
      obtain ⟨z, H', I, r, _⟩ := q
      exact not_declined r
    cases u <;> first | exact q | exact absurd rfl n) fun _ _ e => e
/-- an instance as the library's rules ask for it -/
theorem inst {a C dx : Addr} {fs : List (Str × V)} (I : Inv X pins σ H s) (h : H a = some (.ins C dx fs)) : ∃ od, PySem.W.InstAt s.heap a (PySem.W.instObj C dx) C od := by
  obtain ⟨mA, J, _⟩ := ins_get I.hok h
  obtain ⟨od, J, _⟩ := J.look
  exact ⟨_, J⟩
/-- the type of any value, told without a step that matters -/
theorem typed {M : Model} {x : V} {u : Value} {t : Value} (I : Inv X pins σ H s) (r : RelV x u) (ty : TyX X.K H x t) : PySem.W.Looks M s.heap (typeOf u) t := by
  obtain ⟨P, Z, p, _⟩ := kit_of I r ty
  exact Z.ty M s.heap I.kIn p
end

/-- an own method behind an operator -/
structure Sp1 (K : PySem.W.Frag) (C : Addr) (m : Str) (f : Addr) : Prop where
  at_ : PySem.W.findIn K (.ref C) m = some (some (.ref f))
  fn : PySem.W.isFn K (.ref f) = true
/-- a two-place operator of an own class -/
structure Bin (K : PySem.W.Frag) (C f : Addr) (op : Operator) : Prop where
  first : PySem.W.selfFirst K C = true
  at_ : PySem.W.findIn K (.ref C) (PySem.dunder op.info.2) = some (some (.ref f))
  fn : PySem.W.isFn K (.ref f) = true
/-- .. beside a value of the built-in type T -/
structure BinT (K : PySem.W.Frag) (C f : Addr) (op : Operator) (T : String) : Prop where
  b : Bin K C f op
  r : ∃ rc, PySem.W.findIn K (.ref C) (dunderR op.info.2) = some rc ∧ (rc = none ∨ ∃ g : Addr, rc = some (.ref g))
  l1 : ∃ fo, PySem.W.findIn K (.type T) (PySem.dunder op.info.2) = some fo
  l2 : ∃ ro, PySem.W.findIn K (.type T) (dunderR op.info.2) = some ro
  sub : PySem.W.subIn K (.type T) (.ref C) = some false

def rSame (C : Addr) (sp : Sp) (E : XK) : R2 := fun x y H Q => ∃ a b dx dy fs gs, x = .ref a ∧ y = .ref b ∧ H a = some (.ins C dx fs) ∧ H b = some (.ins C dy gs) ∧ sp [.ref a, .ref b] H Q E
def rLeft (C : Addr) (T : String) (sp : Sp) (E : XK) : R2 := fun x y H Q => ∃ a dx fs, x = .ref a ∧ H a = some (.ins C dx fs) ∧ (∀ u, RelV y u → typeOf u = pure (.type T)) ∧ sp [.ref a, y] H Q E
def rCmp (K : PySem.W.Frag) (C : Addr) (sp : Sp) (E : XK) : R2 := fun x y H Q => ∃ a dx fs t, x = .ref a ∧ H a = some (.ins C dx fs) ∧ TyX K H y t ∧ PySem.W.notFirst K C t = true ∧ sp [.ref a, y] H Q E
def rOne (C : Addr) (sp : Sp) (E : XK) : V → Hp → VK → Prop := fun x H Q => ∃ a dx fs, x = .ref a ∧ H a = some (.ins C dx fs) ∧ sp [.ref a] H Q E

section
variable {X : Cx} {CX : CXT} {k : Nat} {f C : Addr} {fd : FuncData} {ps : List Str} {sp : Sp} {E : XK} {op : Operator} {cop : CmpOp} {T : String}
theorem run2 {pins : List (Addr × Obj)} {σ : L2.St} {H : Hp} {s : Shared} {Q : VK} {x y : V} {u v : Value} (F : FnOk X.prog X.w X.K X.mg X.base CX k f fd ps sp) (hr : Room k X.A) (hb : Binds X.K fd ps []) (hx : Passes CX X E)
    (I : Inv X pins σ H s) (rx : RelV x u) (ry : RelV y v) (h : sp [x, y] H Q E) : wpAny (model X.prog X.w) X.A (call (.ref f) [u, v]) (EP X pins σ Q) X.xe s :=
  run_fn (us := [u, v]) (vs := [x, y]) F hr hb .nil hx I (.cons rx (.cons ry .nil)) h
theorem opS (F : FnOk X.prog X.w X.K X.mg X.base CX k f fd ps sp) (hr : Room k X.A) (B : Bin X.K C f op) (hb : Binds X.K fd ps []) (hx : Passes CX X E) : OpR X (binaryOp op) (rSame C sp E) := by
  rintro pins s σ H x y u v Q I rx ry ⟨a, b, dx, dy, fs, gs, rfl, rfl, ha, hb', q⟩
  cases rx
  cases ry
  obtain ⟨od, J⟩ := inst I ha
  obtain ⟨od', J'⟩ := inst I hb'
  obtain ⟨m, hF⟩ := I.fr
  exact PySem.W.binop_K hF I.ok.mod.kin J J'.type B.first B.at_ B.fn (back (run2 (x := .ref a) (y := .ref b) F hr hb hx I rfl rfl q))
theorem opT (F : FnOk X.prog X.w X.K X.mg X.base CX k f fd ps sp) (hr : Room k X.A) (B : BinT X.K C f op T) (hb : Binds X.K fd ps []) (hx : Passes CX X E) : OpR X (binaryOp op) (rLeft C T sp E) := by
  rintro pins s σ H x y u v Q I rx ry ⟨a, dx, fs, rfl, ha, ty, q⟩
  cases rx
  obtain ⟨od, J⟩ := inst I ha
  obtain ⟨m, hF⟩ := I.fr
  obtain ⟨⟨b1, b2, b3⟩, ⟨rc, r1, r2⟩, ⟨fo, l1⟩, ⟨ro, l2⟩, sb⟩ := B
  exact PySem.W.ksp_binT hF I.ok.mod.kin J (ty _ ry) b1 b2 b3 r1 r2 l1 l2 sb (back (run2 (x := .ref a) F hr hb hx I rfl ry q))
theorem iopT (F : FnOk X.prog X.w X.K X.mg X.base CX k f fd ps sp) (hr : Room k X.A) (h1 : PySem.W.selfFirst X.K C = true) (h2 : Sp1 X.K C (dunderI op.info.2) f) (hb : Binds X.K fd ps []) (hx : Passes CX X E) :
    OpR X (inplaceOp op) (fun x y H Q => ∃ a dx fs, x = .ref a ∧ H a = some (.ins C dx fs) ∧ sp [.ref a, y] H Q E) := by
  rintro pins s σ H x y u v Q I rx ry ⟨a, dx, fs, rfl, ha, q⟩
  cases rx
  obtain ⟨od, J⟩ := inst I ha
  obtain ⟨m, hF⟩ := I.fr
  exact PySem.W.ksp_inplace hF I.ok.mod.kin J h1 h2.at_ h2.fn (back (run2 (x := .ref a) F hr hb hx I rfl ry q))
theorem neg (F : FnOk X.prog X.w X.K X.mg X.base CX k f fd ps sp) (hr : Room k X.A) (B : Sp1 X.K C "__neg__" f) (hb : Binds X.K fd ps []) (hx : Passes CX X E) : UnR X (unaryOp .USub) (rOne C sp E) := by
  rintro pins s σ H x u Q I rx ⟨a, dx, fs, rfl, ha, q⟩
  cases rx
  obtain ⟨od, J⟩ := inst I ha
  obtain ⟨m, hF⟩ := I.fr
  exact PySem.W.ksp_neg hF I.ok.mod.kin J B.at_ B.fn (run_fn (us := [.ref a]) (vs := [.ref a]) F hr hb .nil hx I (.cons rfl .nil) q)
theorem cmp (F : FnOk X.prog X.w X.K X.mg X.base CX k f fd ps sp) (hr : Room k X.A) (B : Sp1 X.K C (cmpInfo cop).2.1 f) (hb : Binds X.K fd ps []) (hx : Passes CX X E)
    (ho : ∀ a b, compareOp cop a b = richCompare cop a b := by intro _ _; rfl) : OpR X (compareOp cop) (rCmp X.K C sp E) := by
  rintro pins s σ H x y u v Q I rx ry ⟨a, dx, fs, t, rfl, ha, ty, nf, q⟩
  cases rx
  obtain ⟨od, J⟩ := inst I ha
  obtain ⟨m, hF⟩ := I.fr
  rw [ho]
  exact PySem.W.cmp_K hr.units0 hF I.ok.mod.kin J (typed I ry ty) nf B.at_ B.fn (back (run2 (x := .ref a) F hr hb hx I rfl ry q))
/-- o[i] by the own __getitem__ -/
theorem item (F : FnOk X.prog X.w X.K X.mg X.base CX k f fd ps sp) (hr : Room k X.A) (B : Sp1 X.K C "__getitem__" f) (hq : PySem.W.noSeq X.K C = true) (hb : Binds X.K fd ps []) (hx : Passes CX X E) :
    OpR X getItem (fun x y H Q => ∃ a dx fs, x = .ref a ∧ H a = some (.ins C dx fs) ∧ sp [.ref a, y] H Q E) := by
  rintro pins s σ H x y u v Q I rx ry ⟨a, dx, fs, rfl, ha, q⟩
  cases rx
  obtain ⟨od, J⟩ := inst I ha
  obtain ⟨m, hF⟩ := I.fr
  exact PySem.W.getItem_K hF I.ok.mod.kin J hq B.at_ B.fn (run2 (x := .ref a) F hr hb hx I rfl ry q)
/-- x in o by the own __contains__, which gives a bool -/
theorem isin (F : FnOk X.prog X.w X.K X.mg X.base CX k f fd ps sp) (hr : Room k X.A) (B : Sp1 X.K C "__contains__" f) (hb : Binds X.K fd ps []) (hx : Passes CX X E) :
    OpR X (compareOp .In) (fun x y H Q => ∃ a dx fs, y = .ref a ∧ H a = some (.ins C dx fs) ∧ sp [.ref a, x] H (fun v H' => ∃ b, v = .bl b ∧ Q (.bl b) H') E) := by
  rintro pins s σ H x y u v Q I rx ry ⟨a, dx, fs, rfl, ha, q⟩
  cases ry
  obtain ⟨od, J⟩ := inst I ha
  obtain ⟨m, hF⟩ := I.fr
  refine PySem.W.in_K hF I.ok.mod.kin J B.at_ B.fn (wpAny_mono (run2 (x := .ref a) F hr hb hx I rfl rx q) (fun r s' hq => ?_) fun _ _ e => e)
  obtain ⟨z, H', I', rz, b, rfl, q'⟩ := hq
  cases rz
  exact wpAny_truthy_bool ⟨.bl b, H', I', rfl, q'⟩
/-- truth by the own __bool__ -/
theorem truth (F : FnOk X.prog X.w X.K X.mg X.base CX k f fd ps sp) (hr : Room k X.A) (B : Sp1 X.K C "__bool__" f) (hb : Binds X.K fd ps []) (hx : Passes CX X E) :
    TruR X (fun x H Q => ∃ a dx fs, x = .ref a ∧ H a = some (.ins C dx fs) ∧ sp [.ref a] H (fun v H' => ∃ b, v = .bl b ∧ Q b H') E) := by
  rintro pins s σ H x u Q I rx ⟨a, dx, fs, rfl, ha, q⟩
  cases rx
  obtain ⟨od, J⟩ := inst I ha
  obtain ⟨m, hF⟩ := I.fr
  refine PySem.W.truthy_K hF I.ok.mod.kin J B.at_ B.fn (wpAny_mono (run_fn (us := [.ref a]) (vs := [.ref a]) F hr hb .nil hx I (.cons rfl .nil) q) (fun r s' hq => ?_) fun _ _ e => e)
  obtain ⟨z, H', I', rz, b, rfl, q'⟩ := hq
  cases rz
  exact ⟨H', I', q'⟩
end
end Own
/-! ## int op own: the reflected operator; != by the inherited rule over the own ==; len; a call of an instance -/
namespace Own
open PySem PySem.Spec PyProof.Rows
section
variable {prog : Program} {w : World} {A : Around} {E : Value → Shared → Prop} {s : Shared} {K : PySem.W.Frag} {x C dx f : Addr} {od : Option Obj}
theorem decl_add {i : Int} {t : Tok} {Q : Shared → Prop} (h : s.heap.get? x = some (PySem.W.instObj C dx)) (hq : Q s) :
    wpAny (model prog w) A (Builtin.«int.__add__» ⟨[.int i t, .ref x], []⟩) (fun fin s' => ∃ v, fin = .done (.ret v) ∧ v = .notImplemented ∧ Q s') E s := by
  obtain ⟨hp, g, d, tk, os⟩ := s
  wp_walk using wpAny_load h
  exact ⟨_, rfl, rfl, hq⟩
theorem decl_sub {i : Int} {t : Tok} {Q : Shared → Prop} (h : s.heap.get? x = some (PySem.W.instObj C dx)) (hq : Q s) :
    wpAny (model prog w) A (Builtin.«int.__sub__» ⟨[.int i t, .ref x], []⟩) (fun fin s' => ∃ v, fin = .done (.ret v) ∧ v = .notImplemented ∧ Q s') E s := by
  obtain ⟨hp, g, d, tk, os⟩ := s
  wp_walk using wpAny_load h
  exact ⟨_, rfl, rfl, hq⟩
theorem decl_mul {i : Int} {t : Tok} {Q : Shared → Prop} (h : s.heap.get? x = some (PySem.W.instObj C dx)) (hq : Q s) :
    wpAny (model prog w) A (Builtin.«int.__mul__» ⟨[.int i t, .ref x], []⟩) (fun fin s' => ∃ v, fin = .done (.ret v) ∧ v = .notImplemented ∧ Q s') E s := by
  obtain ⟨hp, g, d, tk, os⟩ := s
  wp_walk using wpAny_load h
  exact ⟨_, rfl, rfl, hq⟩
end
end Own
namespace Own
open PySem PySem.Spec PyProof.Rows
section
variable {prog : Program} {w : World} {A : Around} {E : Value → Shared → Prop} {s : Shared} {K : PySem.W.Frag} {x C dx f f0 : Addr} {od : Option Obj} {op : Operator} {id : String}
/-- an int declines an operator beside an instance, then the instance's reflected one is asked -/
theorem binR {i : Int} {t : Tok} {Q : Value → Shared → Prop} (KX : K.In s.heap) (I : PySem.W.InstAt s.heap x (PySem.W.instObj C dx) C od) (hc : PySem.W.selfFirst K C = true)
    (h0 : PySem.W.findIn K (.ref C) (PySem.dunder op.info.2) = some (some (.ref f0))) (h1 : PySem.W.findIn K (.ref C) (dunderR op.info.2) = some (some (.ref f))) (hf : PySem.W.isFn K (.ref f) = true)
    (hsub : PySem.W.subIn K (.ref C) (.type "int") = some false) (hfill : fillsNumberSlot (.type "int") op.info.2 = pure true) (slot : Slot "int" (PySem.dunder op.info.2) id)
    (decl : wpAny (model prog w) A (call (.builtin id) [.int i t, .ref x]) (fun v s' => v = .notImplemented ∧ s'.heap = s.heap ∧ s'.gens = s.gens ∧ s'.drawn = s.drawn ∧ s'.os = s.os ∧ s'.toks = s.toks) E s)
    (h : wpAny (model prog w) A (call (.ref f) [.ref x, .int i t]) (PySem.W.CmpBack Q) E s) : wpAny (model prog w) A (binaryOp op (.int i t) (.ref x)) Q E s := by
  obtain ⟨cd, rest, hcd, hm⟩ := PySem.W.ksp_first hc
  rcases hi : op.info with ⟨sym, nm⟩
  rw [hi] at h0 h1 hfill slot
  dsimp only at h0 h1 hfill slot
  have two := PySem.W.ksp_try KX I h1 hf h
  obtain ⟨hh, g, d, tt, os⟩ := s
  have L1 : PySem.W.Looks (model prog w) hh (typeOf (.ref x)) (.ref C) := I.type
  have L3 : PySem.W.Looks (model prog w) hh (fillsNumberSlot (.ref C) nm) true := PySem.W.fills_K KX hcd hm h0
  have L5 : PySem.W.Looks (model prog w) hh (isSubtype (.ref C) (.type "int")) false := PySem.W.looks_subIn KX hsub
  have hne : (Value.type "int" == Value.ref C) = false := Bool.eq_false_iff.mpr fun q => by cases beq_iff_eq.mp q
  have hpy : numberSlotInPython (.type "int") nm = pure false := rfl
  have one : wpAny (model prog w) A (tryMethod (.int i t) (PySem.dunder nm) (.ref x)) (fun r s' => r = none ∧ s'.heap = hh ∧ s'.gens = g ∧ s'.drawn = d ∧ s'.os = os ∧ s'.toks = tt) E ⟨hh, g, d, tt, os⟩ :=
    wpAny_tryMethod_declines (T := "int") (typeIs_int _ i t) slot (wpAny_mono decl (fun v s' q => ⟨q.1, rfl, q.2⟩) fun _ _ e => e)
  simp only [binaryOp, hi]
  refine wpAny_holding (wpAny_bind ?_)
  unfold binaryOp1
  refine wpAny_bind (wpAny_typeOf (typeIs_int _ i t) (wpAny_bind (L1.at (wpAny_bind (wpAny_of_eq hfill ?_)))))
  simp only [hne, Bool.false_eq_true, if_false]
  refine wpAny_bind (L3.at ?_)
  simp only [Bool.and_self, if_true]
  refine wpAny_bind (L5.at ?_)
  simp only [Bool.false_eq_true, if_false, pure_bind, Bool.not_false, Bool.and_self, if_true, hpy]
  refine wpAny_bind (wpAny_mono one (fun r s' q => ?_) fun _ _ e => e)
  obtain ⟨h1, g1, d1, t1, o1⟩ := s'
  obtain ⟨rfl, q1, q2, q3, q4, q5⟩ := q
  dsimp only at q1 q2 q3 q4 q5
  subst q1 q2 q3 q4 q5
  dsimp only
  refine wpAny_bind (wpAny_mono two (fun r s' q => ?_) fun _ _ e => e)
  obtain ⟨v, rfl, q⟩ := q
  exact wpAny_bind (wpAny_rule (wpAny_pure (wpAny_pure q)))
end
end Own
namespace Own
open PySem PySem.Spec PyProof.Rows
theorem slot_ne : Slot "object" "__ne__" "object.__ne__" :=
  .of (T := "object") (name := "__ne__") (owner := "object") (n := "__ne__") (by rw [typeLookup_type, builtinLookup_eq_fast]; kernel_rfl) (by decide +kernel) (by decide +kernel) (by decide +kernel)
    (.inl (by decide +kernel)) (by rw [isSubtype_type]; kernel_rfl)
section
variable {prog : Program} {w : World} {A : Around} {E : Value → Shared → Prop} {s : Shared} {K : PySem.W.Frag} {x C dx f : Addr} {od : Option Obj} {b tb : Value}
theorem check_ne {M : Model} {Q : Unit → Shared → Prop} (I : PySem.W.InstAt s.heap x (PySem.W.instObj C dx) C od) (KX : K.In s.heap) (ho : PySem.W.subIn K (.ref C) (.type "object") = some true) (h : Q () s) :
    wpAny M A (checkBuiltinCall "object.__ne__" ⟨[.ref x, b], []⟩) Q E s := by
  have ha : argsOk "object.__ne__" ⟨[.ref x, b], []⟩ := by unfold argsOk; kernel_rfl
  have L : PySem.W.Looks M s.heap (isSubtype (.ref C) (.type "object")) true := PySem.W.looks_subIn KX ho
  have at_ := I.at_
  obtain ⟨hp, g, d, t, os⟩ := s
  simp only [checkBuiltinCall, F.cmpKind_ne, F.cmpSplit_ne]
  refine wpAny_bind ?_
  unfold isInstance
  repeat (first | (with_reducible refine wpAny_loadPart_at at_ ?_) | (with_reducible refine L.at ?_) | wp_step)
  exact h
/-- != of an instance whose class has an own == alone -/
theorem ne_K {Q : Value → Shared → Prop} (hu : A.units + 1 < cLine) (KX : K.In s.heap) (I : PySem.W.InstAt s.heap x (PySem.W.instObj C dx) C od) (hb : PySem.W.Looks (model prog w) s.heap (typeOf b) tb) (hn : PySem.W.notFirst K C tb = true)
    (h0 : PySem.W.findIn K (.ref C) "__ne__" = some (some (.builtin "object.__ne__"))) (h1 : PySem.W.findIn K (.ref C) "__eq__" = some (some (.ref f))) (hf : PySem.W.isFn K (.ref f) = true) (ho : PySem.W.subIn K (.ref C) (.type "object") = some true)
    (h : wpAny (model prog w) A.in1 (call (.ref f) [.ref x, b]) (fun v s' => ∃ c, v = .bool c ∧ Q (.bool (!c)) s') E s) : wpAny (model prog w) A (richCompare .NotEq (.ref x) b) Q E s := by
  have eqc : wpAny (model prog w) A.in1 (callSpecialIfBound? (.ref x) (Str.ofString "__eq__") [b]) (fun r s' => ∃ c, r = some (.bool c) ∧ Q (.bool (!c)) s') E s :=
    PySem.W.ifBound_K KX I h1 hf (wpAny_mono h (fun v s' ⟨c, e, q⟩ => ⟨c, by rw [e], q⟩) fun _ _ e => e)
  have body : wpAny (model prog w) A.in1 (Builtin.«object.__ne__» ⟨[.ref x, b], []⟩) (fun fin s' => ∃ v, fin = .done (.ret v) ∧ ∃ c, v = .bool (!c) ∧ Q (.bool (!c)) s') E s := by
    obtain ⟨hp, g, d, t, os⟩ := s
    unfold Builtin.«object.__ne__»
    repeat (first
      | with_reducible refine wpAny_cRoomFor hu ?_
      | (refine wpAny_bind (m := callSpecialIfBound? (.ref x) (Str.ofString "__eq__") [b]) (wpAny_mono eqc (fun r s' hr => ?_) fun _ _ e => e))
      | wp_step)
    obtain ⟨c, rfl, q⟩ := hr
    repeat (first
      | exact ⟨_, rfl, c, rfl, q⟩
      | exact wpAny_pure ⟨_, rfl, c, rfl, q⟩
      | (refine wpAny_bind (m := truthy (.bool _)) (wpAny_truthy_bool ?_))
      | wp_step)
  have one : wpAny (model prog w) A (tryCompare (.ref x) (Str.ofString "__ne__") b) (fun r s' => ∃ c, r = some (.bool (!c)) ∧ Q (.bool (!c)) s') E s := by
    unfold tryCompare
    refine wpAny_bind ?_
    simp only [callSpecialIfBound?, bindSpecialIfBound?]
    refine wpAny_holding (wpAny_bind (wpAny_bind (wpAny_bind (I.type.here ((PySem.W.looks_findIn KX h0).here ?_)))))
    have last : wpAny (model prog w) A (call (.builtin "object.__ne__") ([.ref x] ++ [b]) >>= fun v => pure (some v)) (fun a s' => wpAny (model prog w) A (match a with | some .notImplemented | none => pure none | some v => pure (some v)) (fun r s' => ∃ c, r = some (.bool (!c)) ∧ Q (.bool (!c)) s') E s') E s := by
      refine wpAny_bind (wpAny_call (codeAny_call_builtin slot_ne.plain F.cmpEntry_ne (check_ne I KX ho (wpAny_mono body (fun fin s' hv => ?_) fun _ _ e => e))))
      obtain ⟨v, rfl, c, rfl, q⟩ := hv
      exact wpAny_pure (wpAny_pure ⟨c, rfl, q⟩)
    refine wpAny_bind (wpAny_askSetting (wpAny_ite ?_))
    simp only [slot_ne.bind]
    split
    · exact wpAny_bind (wpAny_pure (wpAny_pure last))
    · exact wpAny_tryCatch (wpAny_bind (wpAny_pure (wpAny_pure last)))
  unfold richCompare
  simp only [PySem.oneThing_ref]
  refine wpAny_holding (wpAny_bind (wpAny_cRoomFor (Nat.lt_of_succ_lt hu) ?_))
  rw [cmpInfo_NotEq]
  dsimp only
  refine wpAny_bind (I.type.here (wpAny_bind (hb.here ?_)))
  have tail : wpAny (model prog w) A (tryCompare (.ref x) (Str.ofString "__ne__") b) (fun r s' => ∃ v, r = some v ∧ Q v s') E s :=
    wpAny_mono one (fun r s' ⟨c, e, q⟩ => ⟨_, e, q⟩) fun _ _ e => e
  split
  · rename_i q
    have e : PySem.W.subIn K tb (.ref C) = some false := by
      rcases Bool.or_eq_true_iff.mp hn with e | e
      · rw [beq_iff_eq.mp e] at q; simp at q
      · exact beq_iff_eq.mp e
    refine wpAny_bind ((PySem.W.looks_subIn KX e).here ?_)
    simp only [Bool.false_eq_true, if_false]
    refine wpAny_bind (wpAny_mono tail (fun r s' z => ?_) fun _ _ e => e)
    obtain ⟨v, rfl, hq⟩ := z
    exact wpAny_pure hq
  · refine wpAny_bind (wpAny_pure ?_)
    simp only [Bool.false_eq_true, if_false]
    refine wpAny_bind (wpAny_mono tail (fun r s' z => ?_) fun _ _ e => e)
    obtain ⟨v, rfl, hq⟩ := z
    exact wpAny_pure hq
end
end Own
namespace Own
open PySem PySem.Spec PyProof.Rows L2
section
variable {X : Cx} {CX : CXT} {k : Nat} {f f0 C : Addr} {fd : FuncData} {ps : List Str} {sp : Sp} {E : XK} {op : Operator}
/-- a call one step further in -/
theorem runIn {pins : List (Addr × Obj)} {σ : L2.St} {H : Hp} {s : Shared} {Q : VK} {us : List Value} {vs : List V} (F : FnOk X.prog X.w X.K X.mg X.base CX k f fd ps sp) (hr : Room (k + 1) X.A) (hb : Binds X.K fd ps []) (hx : Passes CX X E)
    (I : Inv X pins σ H s) (r : Vals vs us) (h : sp vs H Q E) : wpAny (model X.prog X.w) X.A.in1 (PySem.call (.ref f) us) (EP X pins σ Q) X.xe s := by
  have hl : us.length = ps.length := by rw [← r.length]; exact F.len _ _ _ _ h
  have hb' := hb s us I.kIn (by simpa using hl)
  rw [List.append_nil] at hb'
  refine wpAny_call (codeAny_mono (F.run X.A.in1 X.stack s H ⟨us, []⟩ us vs Q E hr.in1 I.env0.in1 hb' r h) fun r s' hq => ?_)
  cases r with
  | error e => exact hx pins σ H s e s' I hq
  | ok fl =>
    cases fl with
    | ret u => exact I.after hq
    | next => exact False.elim hq
    | brk => exact False.elim hq
    | cont => exact False.elim hq
structure BinR (K : PySem.W.Frag) (C f : Addr) (op : Operator) : Prop where
  first : PySem.W.selfFirst K C = true
  l : ∃ f0 : Addr, PySem.W.findIn K (.ref C) (PySem.dunder op.info.2) = some (some (.ref f0))
  at_ : PySem.W.findIn K (.ref C) (dunderR op.info.2) = some (some (.ref f))
  fn : PySem.W.isFn K (.ref f) = true
  sub : PySem.W.subIn K (.ref C) (.type "int") = some false
def rRight (C : Addr) (sp : Sp) (E : XK) : R2 := fun x y H Q => ∃ i a dx fs, x = .int i ∧ y = .ref a ∧ H a = some (.ins C dx fs) ∧ sp [.ref a, .int i] H Q E
theorem opR_of {id : String} {B : Builtin} (hfill : fillsNumberSlot (.type "int") op.info.2 = pure true) (slot : Slot "int" (PySem.dunder op.info.2) id) (entry : entryFor table id = some B) (args : ∀ a b : Value, argsOk id ⟨[a, b], []⟩)
    (decl : ∀ {prog : Program} {w : World} {A : Around} {E : Value → Shared → Prop} {s : Shared} {x C dx : Addr} {i : Int} {t : Tok} {Q : Shared → Prop}, s.heap.get? x = some (PySem.W.instObj C dx) → Q s →
      wpAny (model prog w) A (B ⟨[.int i t, .ref x], []⟩) (fun fin s' => ∃ v, fin = .done (.ret v) ∧ v = .notImplemented ∧ Q s') E s)
    (F : FnOk X.prog X.w X.K X.mg X.base CX k f fd ps sp) (hr : Room k X.A) (Z : BinR X.K C f op) (hb : Binds X.K fd ps []) (hx : Passes CX X E) : OpR X (binaryOp op) (rRight C sp E) := by
  rintro pins s σ H x y u v Q I rx ry ⟨i, a, dx, fs, rfl, rfl, ha, q⟩
  obtain ⟨t, rfl⟩ := (show ∃ t, u = Value.int i t from rx)
  cases ry
  obtain ⟨od, J⟩ := inst I ha
  obtain ⟨z1, ⟨f0, z2⟩, z3, z4, z5⟩ := Z
  exact binR I.kIn J z1 z2 z3 z4 z5 hfill slot (wpAny_call_entry slot (typeIs_int s i t) entry (wpAny_mono (decl (Q := fun s' => s'.heap = s.heap ∧ s'.gens = s.gens ∧ s'.drawn = s.drawn ∧ s'.os = s.os ∧ s'.toks = s.toks) J.at_ ⟨rfl, rfl, rfl, rfl, rfl⟩) (fun fin s' ⟨v, e, q⟩ => ⟨v, e, q⟩) fun _ _ e => e) (args _ _))
    (back (run2 (x := .ref a) (y := .int i) F hr hb hx I rfl ⟨t, rfl⟩ q))
theorem opRadd (F : FnOk X.prog X.w X.K X.mg X.base CX k f fd ps sp) (hr : Room k X.A) (Z : BinR X.K C f .Add) (hb : Binds X.K fd ps []) (hx : Passes CX X E) : OpR X (binaryOp .Add) (rRight C sp E) :=
  opR_of PySem.F.fills_int_add PySem.F.slot_int_add PySem.F.entry_int_add PySem.F.args_int_add_2 decl_add F hr Z hb hx
theorem opRsub (F : FnOk X.prog X.w X.K X.mg X.base CX k f fd ps sp) (hr : Room k X.A) (Z : BinR X.K C f .Sub) (hb : Binds X.K fd ps []) (hx : Passes CX X E) : OpR X (binaryOp .Sub) (rRight C sp E) :=
  opR_of PySem.F.fills_int_sub PySem.F.slot_int_sub PySem.F.entry_int_sub PySem.F.args_int_sub_2 decl_sub F hr Z hb hx
theorem opRmul (F : FnOk X.prog X.w X.K X.mg X.base CX k f fd ps sp) (hr : Room k X.A) (Z : BinR X.K C f .Mult) (hb : Binds X.K fd ps []) (hx : Passes CX X E) : OpR X (binaryOp .Mult) (rRight C sp E) :=
  opR_of PySem.F.fills_int_mul PySem.F.slot_int_mul PySem.F.entry_int_mul PySem.F.args_int_mul_2 decl_mul F hr Z hb hx
structure Ne (K : PySem.W.Frag) (C f : Addr) : Prop where
  ne : PySem.W.findIn K (.ref C) "__ne__" = some (some (.builtin "object.__ne__"))
  eq : PySem.W.findIn K (.ref C) "__eq__" = some (some (.ref f))
  fn : PySem.W.isFn K (.ref f) = true
  ob : PySem.W.subIn K (.ref C) (.type "object") = some true
def rNeOwn (K : PySem.W.Frag) (C : Addr) (sp : Sp) (E : XK) : R2 := fun x y H Q => ∃ a dx fs t, x = .ref a ∧ H a = some (.ins C dx fs) ∧ TyX K H y t ∧ PySem.W.notFirst K C t = true ∧ sp [.ref a, y] H (fun v H' => ∃ b, v = .bl b ∧ Q (.bl (!b)) H') E
theorem ne (F : FnOk X.prog X.w X.K X.mg X.base CX k f fd ps sp) (hr : Room (k + 1) X.A) (Z : Ne X.K C f) (hb : Binds X.K fd ps []) (hx : Passes CX X E) : OpR X (compareOp .NotEq) (rNeOwn X.K C sp E) := by
  rintro pins s σ H x y u v Q I rx ry ⟨a, dx, fs, t, rfl, ha, ty, nf, q⟩
  cases rx
  obtain ⟨od, J⟩ := inst I ha
  have hu : X.A.units + 1 < cLine := hu_of hr
  exact ne_K hu I.kIn J (typed I ry ty) nf Z.ne Z.eq Z.fn Z.ob (wpAny_mono (runIn (us := [.ref a, v]) (vs := [.ref a, y]) F hr hb hx I (.cons rfl (.cons ry .nil)) q) (fun r s' hq => by
    obtain ⟨z, H', I', rz, b, rfl, q'⟩ := hq
    cases rz
    exact ⟨b, rfl, .bl (!b), H', I', rfl, q'⟩) fun _ _ e => e)
/-- len(o) by the own __len__ -/
theorem len (F : FnOk X.prog X.w X.K X.mg X.base CX k f fd ps sp) (hr : Room (k + 1) X.A) (B : Sp1 X.K C "__len__" f) (hb : Binds X.K fd ps []) (hx : Passes CX X E) :
    CallR X (.builtin "len") (fun xs H Q => ∃ a dx fs, xs = [.ref a] ∧ H a = some (.ins C dx fs) ∧ sp [.ref a] H (fun v H' => ∃ n, v = .int n ∧ 0 ≤ n ∧ n < 2 ^ 63 ∧ Q (.int n) H') E) := by
  rintro pins s σ H xs us Q I rs ⟨a, dx, fs, rfl, ha, q⟩
  cases rs with
  | cons r rest =>
    cases rest
    cases r
    obtain ⟨od, J⟩ := inst I ha
    obtain ⟨m, hF⟩ := I.fr
    refine PySem.W.len_K hF I.ok.mod.kin J B.at_ B.fn (wpAny_mono (runIn (us := [.ref a]) (vs := [.ref a]) F hr hb hx I (.cons rfl .nil) q) (fun r s' hq => ?_) fun _ _ e => e)
    obtain ⟨z, H', I', rz, n, rfl, h0, h1, q'⟩ := hq
    obtain ⟨t, rfl⟩ := (show ∃ t, r = Value.int n t from rz)
    exact ⟨⟨h0, h1⟩, .int n, H', I'.tok _, ⟨_, rfl⟩, q'⟩
end
theorem fnR_of {P : Program} {w : World} {K : PySem.W.Frag} {mg : Str → Option Value} {base : Heap} {CX : CXT} {k : Nat} {f : Addr} {fd : FuncData} {ps : List Str} {sp : Sp} (F : FnOk P w K mg base CX k f fd ps sp) (hb : Binds K fd ps []) : FnR P w K mg base CX k f sp := by
  intro A outer s H us vs Q E hr e0 r h
  have KX : K.In s.heap := e0.mod.kin.keeps fun b o e => (e0.bs b o e).1
  have hl : us.length = ps.length := by rw [← r.length]; exact F.len _ _ _ _ h
  have hb' := hb s us KX (by simpa using hl)
  rw [List.append_nil] at hb'
  exact F.run A outer s H ⟨us, []⟩ us vs Q E hr e0 hb' r h
def rIop (C : Addr) (sp : Sp) (E : XK) : R2 := fun x y H Q => ∃ a dx fs, x = .ref a ∧ H a = some (.ins C dx fs) ∧ sp [.ref a, y] H Q E
theorem pip {X : Cx} {C : Addr} {sp : Sp} {E : XK} {op : Operator} (h : OpR X (inplaceOp op) (fun x y H Q => ∃ a dx fs, x = .ref a ∧ H a = some (.ins C dx fs) ∧ sp [.ref a, y] H Q E)) : PIp X op (rIop C sp E) :=
  fun pins s σ H x y v u Q I rx ry q => h pins s σ H x y v u Q I rx ry q
theorem iop2 {H : Hp} {Q : VK} {C a dx : Addr} {sp : Sp} {E : XK} {fs : List (Str × V)} {y : V} (ha : H a = some (.ins C dx fs)) (h : sp [.ref a, y] H Q E) : rIop C sp E (.ref a) y H Q := ⟨a, dx, fs, rfl, ha, h⟩
/-- f(e, ..), f an expression that gives an instance of C: the reading speaks of the heap alone -/
def tCallI (C : Addr) (sp : Sp) (E : XK) (tf : TE) (t : TA) : TE := fun σ H Q => tf σ H fun y H1 => ∃ a, y = V.ref a ∧ t σ H1 fun vs H2 => (∃ dx fs, H2 a = some (.ins C dx fs)) ∧ sp (V.ref a :: vs) H2 Q E
theorem pe_callI {X : Cx} {CX : CXT} {k : Nat} {g C : Addr} {sp : Sp} {E : XK} {fe e : Expr} {es : List Expr} {tf : TE} {t : TA} {pos : Pos} (hf : PE X fe tf) (c : StX.CallO X.K C g) (F : FnR X.prog X.w X.K X.mg X.base CX k g sp) (hr : Room k X.A) (hx : Passes CX X E) (ha : PA X (e :: es) t)
    (ht : eval (.Call fe (e :: es) [] pos) X.env = (do callWith pos (← eval fe X.env) [] (backTo pos (starEach (e :: es) X.env)) (backToKw pos (keywordEach [] X.env))) := by rfl)
    (he : starEach (e :: es) X.env = (false, eval e X.env) :: starEach es X.env := by rfl) (hpl : (backTo pos (starEach es X.env)).any (·.1) = false := by rfl) : PE X (.Call fe (e :: es) [] pos) (tCallI C sp E tf t) := by
  refine ⟨fun pins s σ H Q I h => Call_ (thn (hf.run pins s σ H _ I h) fun u s1 z => ?_) ht⟩
  obtain ⟨y, H1, I1, ry, a, rfl, q⟩ := z
  cases ry
  refine StX.callO_with (thn (ha.run pos pins s1 σ H1 _ I1 q) fun us s2 z2 => ?_) he hpl
  obtain ⟨vs, H2, I2, r, hi, q2⟩ := z2
  obtain ⟨od, J⟩ : ∃ od, PySem.W.InstAt s2.heap a (PySem.W.instObj C hi.choose) C od := inst I2 hi.choose_spec.choose_spec
  exact ⟨⟨C, _, od, J, rfl⟩, StX.run_callO c F hr hx I2 (.inr hi) r q2⟩
section
variable {σ : L2.St} {H : Hp} {Q : VK} {C : Addr} {sp : Sp} {E : XK}
theorem opS2 {a b dx dy : Addr} {fs gs : List (Str × V)} (ha : H a = some (.ins C dx fs)) (hb : H b = some (.ins C dy gs)) (h : sp [.ref a, .ref b] H Q E) : rSame C sp E (.ref a) (.ref b) H Q := ⟨a, b, dx, dy, fs, gs, rfl, rfl, ha, hb, h⟩
theorem opT2 {a dx : Addr} {fs : List (Str × V)} {T : String} {y : V} (ha : H a = some (.ins C dx fs)) (ty : ∀ u, RelV y u → typeOf u = pure (.type T)) (h : sp [.ref a, y] H Q E) : rLeft C T sp E (.ref a) y H Q := ⟨a, dx, fs, rfl, ha, ty, h⟩
theorem opR2 {a dx : Addr} {fs : List (Str × V)} {i : Int} (ha : H a = some (.ins C dx fs)) (h : sp [.ref a, .int i] H Q E) : rRight C sp E (.int i) (.ref a) H Q := ⟨i, a, dx, fs, rfl, rfl, ha, h⟩
theorem neg2 {a dx : Addr} {fs : List (Str × V)} (ha : H a = some (.ins C dx fs)) (h : sp [.ref a] H Q E) : rOne C sp E (.ref a) H Q := ⟨a, dx, fs, rfl, ha, h⟩
theorem cmp2 {K : PySem.W.Frag} {a dx : Addr} {fs : List (Str × V)} {y : V} {t : Value} (ha : H a = some (.ins C dx fs)) (ty : TyX K H y t) (nf : PySem.W.notFirst K C t = true) (h : sp [.ref a, y] H Q E) : rCmp K C sp E (.ref a) y H Q := ⟨a, dx, fs, t, rfl, ha, ty, nf, h⟩
theorem ne2 {K : PySem.W.Frag} {a dx : Addr} {fs : List (Str × V)} {y : V} {t : Value} (ha : H a = some (.ins C dx fs)) (ty : TyX K H y t) (nf : PySem.W.notFirst K C t = true) (h : sp [.ref a, y] H (fun v H' => ∃ b, v = .bl b ∧ Q (.bl (!b)) H') E) : rNeOwn K C sp E (.ref a) y H Q := ⟨a, dx, fs, t, rfl, ha, ty, nf, h⟩
theorem callI {tf : TE} {t : TA} (h : tf σ H fun y H1 => ∃ a, y = V.ref a ∧ t σ H1 fun vs H2 => (∃ dx fs, H2 a = some (.ins C dx fs)) ∧ sp (V.ref a :: vs) H2 Q E) : tCallI C sp E tf t σ H Q := h
theorem ty_int {i : Int} : ∀ u, RelV (.int i) u → typeOf u = pure (.type "int") := by
  rintro u ⟨t, rfl⟩
  rfl
end
end Own
/-! ## lists made of lists, and what == says of ints -/
namespace Rd
open PySem PySem.Spec PyProof.Rows L2
theorem lc {wi : TI} {g : TG} {tt : TT} {te : TE} {vs : List Nat} {σ : L2.St} {H : Hp} {Q : VK} (h : wi σ H fun J H1 => ∀ D, H1 D = none → ∃ W : Nat → Nat → Hp → Prop, (∃ m, W 0 m (upd H1 D (.lst []))) ∧ ∀ i m H, W i m H →
    (J.stop i H ∧ Q (.ref D) H) ∨ (J.go i H ∧ ∃ Nx : Hp → Prop, (∀ H', Nx H' → ∃ m', m' < m ∧ W (i + 1) m' H') ∧ ∀ x H', J.yld i H x H' → g x (wipe σ vs) H' fun σ2 H2 => wipe σ2 vs = wipe σ vs ∧ tt σ2 H2 fun b H3 =>
      if b = true then te σ2 H3 fun y H4 => ∃ acc, H4 D = some (.lst acc) ∧ acc.length < sizeLine ∧ Nx (upd H4 D (.lst (acc ++ [y]))) else Nx H3)) : tLc wi g tt te vs σ H Q := h
theorem il {K : PySem.W.Frag} {tl : TE} {σ : L2.St} {H : Hp} {R : It → Hp → Prop} (h : tl σ H fun x H1 => ∃ a, x = .ref a ∧ (∃ xs, SqL K H1 a xs) ∧ R (Itl K a) H1) : iList K tl σ H R := h
theorem same_upd {H H' : Hp} {D : Addr} {o : HO} (hD : H D = none) (S : Same H H') : Same H (upd H' D o) := fun b u e => by
  rw [upd_ne (ne_of_none e hD)]
  exact S b u e
/-- [e for x in l]: the items' images, where e makes the image and leaves what was tracked -/
theorem lcMap {α : Type} {items : List α} {inj res : α → V} {K : PySem.W.Frag} {a : Addr} {i : Nat} {te : TE} {vs : List Nat} {σ : L2.St} {H : Hp} {Q : VK} (hs : SqL K H a (items.map inj)) (hn : items.length ≤ 1000)
    (hw : ∀ x, wipe ((wipe σ vs).set i (some x)) vs = wipe σ vs)
    (elem : ∀ x ∈ items, ∀ H', Same H H' → ∀ R : VK, (∀ H'', Same H' H'' → R (res x) H'') → te ((wipe σ vs).set i (some (inj x))) H' R)
    (k : ∀ (p : Addr) (H' : Hp), H p = none → Same H H' → H' p = some (.lst (items.map res)) → Q (.ref p) H') :
    (∃ xs, SqL K H a xs) ∧ ∀ D, H D = none → ∃ W : Nat → Nat → Hp → Prop, (∃ m, W 0 m (upd H D (.lst []))) ∧ ∀ t m H, W t m H →
      ((Itl K a).stop t H ∧ Q (.ref D) H) ∨ ((Itl K a).go t H ∧ ∃ Nx : Hp → Prop, (∀ H', Nx H' → ∃ m', m' < m ∧ W (t + 1) m' H') ∧ ∀ x H', (Itl K a).yld t H x H' → (gName i) x (wipe σ vs) H' fun σ2 H2 => wipe σ2 vs = wipe σ vs ∧ tYes σ2 H2 fun b H3 =>
        if b = true then te σ2 H3 fun y H4 => ∃ acc, H4 D = some (.lst acc) ∧ acc.length < sizeLine ∧ Nx (upd H4 D (.lst (acc ++ [y]))) else Nx H3) := by
  refine ⟨⟨_, hs⟩, fun D hD => lc_list (xs := items.map inj) (fun t H' => Same H H' ∧ H' D = some (.lst ((items.take t).map res))) ⟨same_upd hD (Same.refl _), upd_same⟩ (fun t H' _ p => p.1.seq hs) (fun t x H' hx p => ?_) (fun H' p => ?_)⟩
  · obtain ⟨S, hl⟩ := p
    rw [List.getElem?_map] at hx
    cases e : items[t]? with
    | none => rw [e] at hx; cases hx
    | some y =>
      rw [e] at hx
      cases hx
      have hy : y ∈ items := List.mem_of_getElem? e
      have ht : t < items.length := (List.getElem?_eq_some_iff.mp e).1
      refine ⟨hw _, iteT (B := Same H H' ∧ H' D = some (.lst ((items.take (t + 1)).map res))) rfl (elem y hy H' S _ fun H'' S' => ⟨_, S' _ _ hl, ?_, ?_, ?_⟩)⟩
      · rw [List.length_map, List.length_take]
        exact small1000 (by omega)
      · exact same_upd hD (S.trans S')
      · rw [upd_same, List.take_add_one, e]
        simp
  · obtain ⟨S, hl⟩ := p
    rw [List.length_map, List.take_length] at hl
    exact k D H' hD S hl
theorem lcMapI {ns : List Int} {g : Int → Int} {K : PySem.W.Frag} {a : Addr} {i : Nat} {te : TE} {vs : List Nat} {σ : L2.St} {H : Hp} {Q : VK} (hs : SqL K H a (ns.map V.int)) (hn : ns.length ≤ 1000)
    (hw : ∀ x, wipe ((wipe σ vs).set i (some x)) vs = wipe σ vs)
    (elem : ∀ x ∈ ns, ∀ H', Same H H' → ∀ R : VK, (∀ H'', Same H' H'' → R (.int (g x)) H'') → te ((wipe σ vs).set i (some (.int x))) H' R)
    (k : ∀ (p : Addr) (H' : Hp), H p = none → Same H H' → H' p = some (.lst ((ns.map g).map V.int)) → Q (.ref p) H') :
    (∃ xs, SqL K H a xs) ∧ ∀ D, H D = none → ∃ W : Nat → Nat → Hp → Prop, (∃ m, W 0 m (upd H D (.lst []))) ∧ ∀ t m H, W t m H →
      ((Itl K a).stop t H ∧ Q (.ref D) H) ∨ ((Itl K a).go t H ∧ ∃ Nx : Hp → Prop, (∀ H', Nx H' → ∃ m', m' < m ∧ W (t + 1) m' H') ∧ ∀ x H', (Itl K a).yld t H x H' → (gName i) x (wipe σ vs) H' fun σ2 H2 => wipe σ2 vs = wipe σ vs ∧ tYes σ2 H2 fun b H3 =>
        if b = true then te σ2 H3 fun y H4 => ∃ acc, H4 D = some (.lst acc) ∧ acc.length < sizeLine ∧ Nx (upd H4 D (.lst (acc ++ [y]))) else Nx H3) :=
  lcMap (inj := V.int) (res := fun x => .int (g x)) hs hn hw elem fun p H' hp S h => k p H' hp S (by rw [List.map_map]; exact h)
theorem lcVarI {ns : List Int} {g : Int → Int} {K : PySem.W.Frag} {a : Addr} {i j : Nat} {te : TE} {vs : List Nat} {σ : L2.St} {H : Hp} {Q : VK} (ej : σ[j]? = some (some (.ref a))) (hs : SqL K H a (ns.map V.int)) (hn : ns.length ≤ 1000)
    (hw : ∀ x, wipe ((wipe σ vs).set i (some x)) vs = wipe σ vs)
    (elem : ∀ x ∈ ns, ∀ H', Same H H' → ∀ R : VK, (∀ H'', Same H' H'' → R (.int (g x)) H'') → te ((wipe σ vs).set i (some (.int x))) H' R)
    (k : ∀ (p : Addr) (H' : Hp), H p = none → Same H H' → H' p = some (.lst ((ns.map g).map V.int)) → Q (.ref p) H') : tLc (iList K (tVar j)) (gName i) tYes te vs σ H Q :=
  lc (il ⟨_, ej, _, rfl, lcMapI hs hn hw elem k⟩)
/-- [e for x in l if t] where t never holds: a new empty list -/
theorem lcNone {items : List V} {K : PySem.W.Frag} {a : Addr} {i j : Nat} {te : TE} {tt : TT} {vs : List Nat} {σ : L2.St} {H : Hp} {Q : VK} (ej : σ[j]? = some (some (.ref a))) (hs : SqL K H a items)
    (hw : ∀ x, wipe ((wipe σ vs).set i (some x)) vs = wipe σ vs)
    (test : ∀ x ∈ items, ∀ H', Same H H' → ∀ R : Bool → Hp → Prop, (∀ H'', Same H' H'' → R false H'') → tt ((wipe σ vs).set i (some x)) H' R)
    (k : ∀ (p : Addr) (H' : Hp), H p = none → Same H H' → H' p = some (.lst []) → Q (.ref p) H') : tLc (iList K (tVar j)) (gName i) tt te vs σ H Q := by
  refine lc (il ⟨_, ej, _, rfl, ⟨_, hs⟩, fun D hD => lc_list (xs := items) (fun _ H' => Same H H' ∧ H' D = some (.lst [])) ⟨same_upd hD (Same.refl _), upd_same⟩ (fun t H' _ p => p.1.seq hs) (fun t x H' hx p => ?_) (fun H' p => k D H' hD p.1 p.2)⟩)
  obtain ⟨S, hl⟩ := p
  refine ⟨hw _, test x (List.mem_of_getElem? hx) H' S _ fun H'' S' => ?_⟩
  exact iteF (A := te _ H'' _) rfl ⟨S.trans S', S' _ _ hl⟩
theorem mulB {a n : Int} {A B : Nat} (ha : a.natAbs < 2 ^ A) (hn : n.natAbs < 2 ^ B) : -(2 ^ (A + B)) < a * n ∧ a * n < 2 ^ (A + B) := by
  have h := wide_lt ha hn
  have e : ((2 ^ (A + B) : Nat) : Int) = (2 : Int) ^ (A + B) := by simp
  rw [← e]
  omega
theorem dp_ints {K : PySem.W.Frag} {H : Hp} : ∀ ns : List Int, DpAll K H (ns.map V.int) (ns.map PyData.int)
  | [] => .nil
  | _ :: r => .cons (.int _) (dp_ints r)
theorem dp_listI {K : PySem.W.Frag} {H : Hp} {a : Addr} {ns : List Int} (h : SqL K H a (ns.map V.int)) : Dp K H (.ref a) (.list (ns.map PyData.int)) := .lst h (dp_ints ns)
theorem can_ints : ∀ ns : List Int, PyData.canLayAll0 (ns.map PyData.int) = true
  | [] => by simp [PyData.canLayAll0]
  | _ :: r => by simp only [List.map_cons, PyData.canLayAll0, PyData.canLay0, can_ints r, Bool.and_self]
theorem dep_ints : ∀ ns : List Int, PyData.depthAll (ns.map PyData.int) = 0
  | [] => by simp [PyData.depthAll]
  | _ :: r => by simp only [List.map_cons, PyData.depthAll, PyData.depth, dep_ints r, Nat.max_self]
theorem shaped_listI (ns : List Int) : SeqAt.shaped (.list (ns.map PyData.int)) = true := by
  simp only [SeqAt.shaped, PyData.canLay0, can_ints, PyData.depth, dep_ints]
  decide
theorem eqvAll_ints : ∀ ns ms : List Int, PyData.eqvAll (ns.map PyData.int) (ms.map PyData.int) = decide (ns = ms)
  | [], [] => by simp [PyData.eqvAll]
  | [], _ :: _ => by simp [PyData.eqvAll]
  | _ :: _, [] => by simp [PyData.eqvAll]
  | x :: r, y :: q => by
    simp only [List.map_cons, PyData.eqvAll, PyData.eqv, eqvAll_ints r q]
    by_cases h : x = y
    · subst h; simp
    · simp [h]
theorem eqv_listI (ns ms : List Int) : PyData.eqv (.list (ns.map PyData.int)) (.list (ms.map PyData.int)) = decide (ns = ms) := by
  simp only [PyData.eqv, eqvAll_ints]
theorem eqv_pair (a b c d : Int) : PyData.eqv (.tuple [.int a, .int b]) (.tuple [.int c, .int d]) = (a == c && b == d) := by
  simp [PyData.eqv, PyData.eqvAll]
theorem eqv_pairV (a b c d : Int) : PyData.eqv (.tuple [.int a, .int b]) (.tuple [.int c, .int d]) = (decide (V.int a = .int c) && decide (V.int b = .int d)) := by
  simp only [PyData.eqv, PyData.eqvAll, Bool.and_true, V.int.injEq]
  rw [Bool.eq_iff_iff]
  simp
theorem dp_pair {K : PySem.W.Frag} {H : Hp} {p : Addr} {a b : Int} (h : SqT K H p [.int a, .int b]) : Dp K H (.ref p) (.tuple [.int a, .int b]) := .tup h (.cons (.int _) (.cons (.int _) .nil))
theorem shaped_pair (a b : Int) : SeqAt.shaped (.tuple [.int a, .int b]) = true := by
  simp only [SeqAt.shaped, PyData.canLay0, PyData.canLayAll0, PyData.depth, PyData.depthAll]
  rfl
theorem isi {X : Cx} {K : PySem.W.Frag} (e : X.K = K) : CallR X (.builtin "isinstance") (rIsi K) := e ▸ call_isi
theorem dp_nil {K : PySem.W.Frag} {H : Hp} {p : Addr} (h : SqL K H p []) : Dp K H (.ref p) (.list []) := .lst h .nil
theorem eqv_nil : PyData.eqv (.list []) (.list []) = true := by simp [PyData.eqv, PyData.eqvAll]
theorem shaped_nil : SeqAt.shaped (.list []) = true := by
  simp only [SeqAt.shaped, PyData.canLay0, PyData.canLayAll0, PyData.depth, PyData.depthAll]
  rfl
/-- an item of a written list of ints at a drawn place -/
theorem pick {ns : List Int} {lo hi : Int} {K : PySem.W.Frag} {H : Hp} {a : Addr} {xs : List V} {d : Int} {Q : VK} (hm : ∀ n ∈ ns, lo ≤ n ∧ n ≤ hi) (e : SqL K H a xs) (eq : xs = ns.map V.int) (h0 : 0 ≤ d) (h1 : d < (ns.length : Int))
    (h : ∀ n : Int, n ∈ ns → lo ≤ n → n ≤ hi → Q (.int n) H) : rIxL K (.ref a) (.int d) H Q := by
  subst eq
  obtain ⟨j, rfl⟩ : ∃ j : Nat, d = (j : Int) := ⟨d.toNat, by omega⟩
  have hj : j < ns.length := by omega
  have hn : ns[j] ∈ ns := List.getElem_mem hj
  exact ⟨a, _, _, .int ns[j], rfl, rfl, e, atI_nat (by rw [List.getElem?_map, List.getElem?_eq_getElem hj]; rfl), h _ hn (hm _ hn).1 (hm _ hn).2⟩
theorem sgn {d n B : Int} (h0 : 0 ≤ d) (h1 : d < B) (m : n ∈ [(1 : Int), -1]) : -B < d * n ∧ d * n < B := by
  simp only [List.mem_cons, List.not_mem_nil, or_false] at m
  rcases m with rfl | rfl <;> omega
end Rd
/-! ## pairs in order, lists of truths -/
namespace Rd
open PySem PySem.Spec PyProof.Rows L2
/-- what an order of pairs says: rr of the first unlike parts, z where all are alike -/
def rPr (K : PySem.W.Frag) (z : Bool) (rr : Int → Int → Bool) : R2 := fun x y H Q => ∃ (p q : Addr) (a b c d : Int), x = .ref p ∧ y = .ref q ∧ SqT K H p [.int a, .int b] ∧ SqT K H q [.int c, .int d] ∧ Q (.bl (if a = c then (if b = d then z else rr b d) else rr a c)) H
theorem pair_ints {us : List Value} {a b : Int} (h : IntsAre us [a, b]) : ∃ t u, us = [.int a t, .int b u] := by
  cases h with
  | cons _ t h1 =>
    cases h1 with
    | cons _ u h2 =>
      cases h2
      exact ⟨t, u, rfl⟩
theorem opPr {X : Cx} {op : CmpOp} {z : Bool} {rr : Int → Int → Bool}
    (T : ∀ {s : Shared} {l m : Addr} {u1 u2 w1 w2 : Value} {e r : Nat → Bool}, s.heap.IsTuple l #[u1, u2] → s.heap.IsTuple m #[w1, w2] →
      (∀ j (h1 : j < (#[u1, u2] : Array Value).size) (h2 : j < (#[w1, w2] : Array Value).size), SeqAt.EqAt X.A.in1 s (#[u1, u2] : Array Value)[j] (#[w1, w2] : Array Value)[j] (e j)) →
      (∀ j (h1 : j < (#[u1, u2] : Array Value).size) (h2 : j < (#[w1, w2] : Array Value).size), e j = false → Ob.RcOp op X.A.in1 s (#[u1, u2] : Array Value)[j] (#[w1, w2] : Array Value)[j] (r j)) → Ob.RcOp op X.A s (.ref l) (.ref m) (Ob.lexAt e r z 0 2))
    (I1 : ∀ {s : Shared} (a b : Int) (t u : Tok), Ob.RcOp op X.A.in1 s (.int a t) (.int b u) (rr a b))
    (hop : ∀ (x y : Value), compareOp op x y = richCompare op x y) : OpR X (compareOp op) (rPr X.K z rr) := by
  intro pins s σ H x y v u Q I rx ry h
  obtain ⟨p, q, a, b, c, d, rfl, rfl, hp, hq, k⟩ := h
  cases rx
  cases ry
  obtain ⟨us, r1, p1, _⟩ := I.tuple hp
  obtain ⟨ws, r2, p2, _⟩ := I.tuple hq
  obtain ⟨t1, t2, rfl⟩ := pair_ints (Vals.ints (ns := [a, b]) r1)
  obtain ⟨t3, t4, rfl⟩ := pair_ints (Vals.ints (ns := [c, d]) r2)
  have R := T (s := s) (e := fun j => if j = 0 then decide (a = c) else decide (b = d)) (r := fun j => if j = 0 then rr a c else rr b d) p1 p2 (fun j h1 h2 => by
    rcases j with _ | _ | j
    · have w := SeqAt.EqAt.int_int (A := X.A.in1) (s := s) a t1 c t3
      rw [show (a == c) = decide (a = c) from by by_cases e : a = c <;> simp [e]] at w
      exact w
    · have w := SeqAt.EqAt.int_int (A := X.A.in1) (s := s) b t2 d t4
      rw [show (b == d) = decide (b = d) from by by_cases e : b = d <;> simp [e]] at w
      exact w
    · exact absurd h1 (by simp)) (fun j h1 h2 _ => by
    rcases j with _ | _ | j
    · exact I1 a c t1 t3
    · exact I1 b d t2 t4
    · exact absurd h1 (by simp))
  have hb : Ob.lexAt (fun j => if j = 0 then decide (a = c) else decide (b = d)) (fun j => if j = 0 then rr a c else rr b d) z 0 2 = (if a = c then (if b = d then z else rr b d) else rr a c) := by
    simp only [Ob.lexAt, decide_eq_true_eq, if_pos]
    by_cases e : a = c <;> by_cases f : b = d <;> simp [e, f]
  rw [hb] at R
  show wpAny (model X.prog X.w) X.A (compareOp op (.ref p) (.ref q)) (EP X pins σ Q) X.xe s
  rw [hop]
  exact R X.prog X.w X.xe (EP X pins σ Q) ⟨.bl _, H, I, rfl, k⟩
theorem opPrLt {X : Cx} (hu : X.A.units < cLine) : OpR X (compareOp .Lt) (rPr X.K false fun a b => decide (a < b)) :=
  opPr (fun h1 h2 e r => Ob.RcOp.tuples_lt h1 h2 hu e r) (fun a b t u => Ob.RcOp.lt_int a b t u) (fun _ _ => rfl)
theorem opPrLe {X : Cx} (hu : X.A.units < cLine) : OpR X (compareOp .LtE) (rPr X.K true fun a b => decide (a ≤ b)) :=
  opPr (fun h1 h2 e r => Ob.RcOp.tuples_le h1 h2 hu e r) (fun a b t u => Ob.RcOp.le_int a b t u) (fun _ _ => rfl)
theorem opPrGt {X : Cx} (hu : X.A.units < cLine) : OpR X (compareOp .Gt) (rPr X.K false fun a b => decide (b < a)) :=
  opPr (fun h1 h2 e r => Ob.RcOp.tuples_gt h1 h2 hu e r) (fun a b t u => Ob.RcOp.gt_int a b t u) (fun _ _ => rfl)
theorem opPrGe {X : Cx} (hu : X.A.units < cLine) : OpR X (compareOp .GtE) (rPr X.K true fun a b => decide (b ≤ a)) :=
  opPr (fun h1 h2 e r => Ob.RcOp.tuples_ge h1 h2 hu e r) (fun a b t u => Ob.RcOp.ge_int a b t u) (fun _ _ => rfl)
section
variable {K : PySem.W.Frag} {H : Hp} {p q : Addr} {a b c d : Int} {Q : VK}
theorem prLt (e : SqT K H p [.int a, .int b]) (f : SqT K H q [.int c, .int d]) (h : Q (.bl (decide (a < c ∨ a = c ∧ b < d))) H) : rPr K false (fun a b => decide (a < b)) (.ref p) (.ref q) H Q := by
  refine ⟨_, _, a, b, c, d, rfl, rfl, e, f, ?_⟩
  have w : (if a = c then (if b = d then false else decide (b < d)) else decide (a < c)) = decide (a < c ∨ a = c ∧ b < d) := by
    split <;> (try split) <;> (rw [eq_comm]; first | (apply decide_eq_false; omega) | (congr 1; apply propext; omega))
  rw [w]
  exact h
theorem prLe (e : SqT K H p [.int a, .int b]) (f : SqT K H q [.int c, .int d]) (h : Q (.bl (decide (a < c ∨ a = c ∧ b ≤ d))) H) : rPr K true (fun a b => decide (a ≤ b)) (.ref p) (.ref q) H Q := by
  refine ⟨_, _, a, b, c, d, rfl, rfl, e, f, ?_⟩
  have w : (if a = c then (if b = d then true else decide (b ≤ d)) else decide (a ≤ c)) = decide (a < c ∨ a = c ∧ b ≤ d) := by
    split <;> (try split) <;> (rw [eq_comm]; first | (apply decide_eq_true; omega) | (congr 1; apply propext; omega))
  rw [w]
  exact h
theorem prGt (e : SqT K H p [.int a, .int b]) (f : SqT K H q [.int c, .int d]) (h : Q (.bl (decide (c < a ∨ a = c ∧ d < b))) H) : rPr K false (fun a b => decide (b < a)) (.ref p) (.ref q) H Q := by
  refine ⟨_, _, a, b, c, d, rfl, rfl, e, f, ?_⟩
  have w : (if a = c then (if b = d then false else decide (d < b)) else decide (c < a)) = decide (c < a ∨ a = c ∧ d < b) := by
    split <;> (try split) <;> (rw [eq_comm]; first | (apply decide_eq_false; omega) | (congr 1; apply propext; omega))
  rw [w]
  exact h
theorem prGe (e : SqT K H p [.int a, .int b]) (f : SqT K H q [.int c, .int d]) (h : Q (.bl (decide (c < a ∨ a = c ∧ d ≤ b))) H) : rPr K true (fun a b => decide (b ≤ a)) (.ref p) (.ref q) H Q := by
  refine ⟨_, _, a, b, c, d, rfl, rfl, e, f, ?_⟩
  have w : (if a = c then (if b = d then true else decide (d ≤ b)) else decide (c ≤ a)) = decide (c < a ∨ a = c ∧ d ≤ b) := by
    split <;> (try split) <;> (rw [eq_comm]; first | (apply decide_eq_true; omega) | (congr 1; apply propext; omega))
  rw [w]
  exact h
end
/-- t + u, of pairs -/
theorem catP {K : PySem.W.Frag} {H : Hp} {p q : Addr} {a b c d : V} {Q : VK} (e : SqT K H p [a, b]) (f : SqT K H q [c, d]) (h : ∀ r, H r = none → Q (.ref r) (upd H r (.tup [a, b, c, d]))) : rCatT K (.ref p) (.ref q) H Q :=
  ⟨p, q, _, _, rfl, rfl, e, f, by simp, Nat.le_of_lt (small1000 (show 4 ≤ 1000 by decide)), fun z => absurd z (by simp), fun _ r hr => h r hr⟩
theorem it {K : PySem.W.Frag} {tl : TE} {σ : L2.St} {H : Hp} {R : It → Hp → Prop} (h : tl σ H fun x H1 => ∃ a, x = .ref a ∧ (∃ xs, SqT K H1 a xs) ∧ R (Itt K a) H1) : iTup K tl σ H R := h
theorem ckw {r : List V → List V → Hp → VK → Prop} {t tk : TA} {σ : L2.St} {H : Hp} {Q : VK} (h : t σ H fun vs H1 => tk σ H1 fun zs H2 => r vs zs H2 Q) : tCKw r t tk σ H Q := h
theorem sqTS {K : PySem.W.Frag} {H H' : Hp} {a : Addr} {xs : List V} (f : Same H H') (h : SqT K H a xs) : SqT K H' a xs :=
  h.elim (fun r => .inl (r.elim (fun z => .inl (f _ _ z)) fun ⟨o, z⟩ => .inr ⟨o, f _ _ z⟩)) .inr
/-- [e for x in t], t a tuple of ints -/
theorem lcMapT {ns : List Int} {g : Int → Int} {K : PySem.W.Frag} {a : Addr} {i : Nat} {te : TE} {vs : List Nat} {σ : L2.St} {H : Hp} {Q : VK} {xs : List V} (hs : SqT K H a xs) (ex : xs = ns.map V.int) (hn : ns.length ≤ 1000)
    (hw : ∀ x, wipe ((wipe σ vs).set i (some x)) vs = wipe σ vs)
    (elem : ∀ x ∈ ns, ∀ H', Same H H' → ∀ R : VK, (∀ H'', Same H' H'' → R (.int (g x)) H'') → te ((wipe σ vs).set i (some (.int x))) H' R)
    (k : ∀ (p : Addr) (H' : Hp), H p = none → Same H H' → H' p = some (.lst ((ns.map g).map V.int)) → Q (.ref p) H') :
    (∃ xs, SqT K H a xs) ∧ ∀ D, H D = none → ∃ W : Nat → Nat → Hp → Prop, (∃ m, W 0 m (upd H D (.lst []))) ∧ ∀ t m H, W t m H →
      ((Itt K a).stop t H ∧ Q (.ref D) H) ∨ ((Itt K a).go t H ∧ ∃ Nx : Hp → Prop, (∀ H', Nx H' → ∃ m', m' < m ∧ W (t + 1) m' H') ∧ ∀ x H', (Itt K a).yld t H x H' → (gName i) x (wipe σ vs) H' fun σ2 H2 => wipe σ2 vs = wipe σ vs ∧ tYes σ2 H2 fun b H3 =>
        if b = true then te σ2 H3 fun y H4 => ∃ acc, H4 D = some (.lst acc) ∧ acc.length < sizeLine ∧ Nx (upd H4 D (.lst (acc ++ [y]))) else Nx H3) := by
  subst ex
  refine ⟨⟨_, hs⟩, fun D hD => lc_tup (xs := ns.map V.int) (fun t H' => Same H H' ∧ H' D = some (.lst (((ns.take t).map g).map V.int))) ⟨same_upd hD (Same.refl _), upd_same⟩ (fun t H' _ p => sqTS p.1 hs) (fun t x H' hx p => ?_) (fun H' p => ?_)⟩
  · obtain ⟨S, hl⟩ := p
    rw [List.getElem?_map] at hx
    cases e : ns[t]? with
    | none => rw [e] at hx; cases hx
    | some y =>
      rw [e] at hx
      cases hx
      have hy : y ∈ ns := List.mem_of_getElem? e
      have ht : t < ns.length := (List.getElem?_eq_some_iff.mp e).1
      refine ⟨hw _, iteT (B := Same H H' ∧ H' D = some (.lst (((ns.take (t + 1)).map g).map V.int))) rfl (elem y hy H' S _ fun H'' S' => ⟨_, S' _ _ hl, ?_, ?_, ?_⟩)⟩
      · rw [List.length_map, List.length_map, List.length_take]
        exact small1000 (by omega)
      · exact same_upd hD (S.trans S')
      · rw [upd_same, List.take_add_one, e]
        simp
  · obtain ⟨S, hl⟩ := p
    rw [List.length_map, List.take_length] at hl
    exact k D H' hD S hl
/-- [e for x in t + u], t and u pairs of ints -/
theorem lcCatI {a b c d : Int} {g : Int → Int} {K : PySem.W.Frag} {p q : Addr} {i j1 j2 : Nat} {te : TE} {vs : List Nat} {σ : L2.St} {H : Hp} {Q : VK} (e1 : σ[j1]? = some (some (.ref p))) (e2 : σ[j2]? = some (some (.ref q))) (hp : SqT K H p [.int a, .int b]) (hq : SqT K H q [.int c, .int d])
    (hw : ∀ x, wipe ((wipe σ vs).set i (some x)) vs = wipe σ vs)
    (elem : ∀ x ∈ [a, b, c, d], ∀ H', Same H H' → ∀ R : VK, (∀ H'', Same H' H'' → R (.int (g x)) H'') → te ((wipe σ vs).set i (some (.int x))) H' R)
    (k : ∀ (r : Addr) (H' : Hp), Same H H' → H' r = some (.lst (([a, b, c, d].map g).map V.int)) → Q (.ref r) H') : tLc (iTup K (tOp (rCatT K) (tVar j1) (tVar j2))) (gName i) tYes te vs σ H Q :=
  lc (it ⟨_, e1, _, e2, catP hp hq fun r hr => ⟨r, rfl, lcMapT (SqT.of (L2.upd_same)) rfl (by simp) hw (fun x hx H' S R kk => elem x hx H' (Same.trans (same_upd hr (Same.refl _)) S) R kk) fun r2 H' h2 S hl => k r2 H' (Same.trans (same_upd hr (Same.refl _)) S) hl⟩⟩)
theorem two {u v : V} {i : Nat} {x : V} (h : [u, v][i]? = some x) : x = u ∨ x = v := by
  rcases i with _ | _ | i
  · exact .inl (Option.some.inj h).symm
  · exact .inr (Option.some.inj h).symm
  · simp at h
theorem dp_b4 {K : PySem.W.Frag} {H : Hp} {p : Addr} {x y z w : Bool} (h : SqL K H p [.bl x, .bl y, .bl z, .bl w]) : Dp K H (.ref p) (.list [.bool x, .bool y, .bool z, .bool w]) := .lst h (.cons (.bl _) (.cons (.bl _) (.cons (.bl _) (.cons (.bl _) .nil))))
theorem shaped_b4 (x y z w : Bool) : SeqAt.shaped (.list [.bool x, .bool y, .bool z, .bool w]) = true := by
  simp only [SeqAt.shaped, PyData.canLay0, PyData.canLayAll0, PyData.depth, PyData.depthAll]
  rfl
theorem lessV (a b c d : Int) : (decide (a < c) || (decide (V.int a = V.int c) && decide (b < d))) = decide (a < c ∨ a = c ∧ b < d) := by
  rw [Bool.eq_iff_iff]
  simp
theorem told4 (a b c d : Int) : (!PyData.eqv (.list [.bool (decide (a < c ∨ a = c ∧ b < d)), .bool (decide (a < c ∨ a = c ∧ b ≤ d)), .bool (decide (c < a ∨ a = c ∧ d < b)), .bool (decide (c < a ∨ a = c ∧ d ≤ b))])
    (.list [.bool (decide (a < c ∨ a = c ∧ b < d)), .bool (decide (a < c ∨ a = c ∧ b < d) || PyData.eqv (.tuple [.int a, .int b]) (.tuple [.int c, .int d])), .bool (!decide (a < c ∨ a = c ∧ b < d) && !PyData.eqv (.tuple [.int a, .int b]) (.tuple [.int c, .int d])), .bool (!decide (a < c ∨ a = c ∧ b < d))])) = false := by
  have e : PyData.eqv (.tuple [.int a, .int b]) (.tuple [.int c, .int d]) = decide (a = c ∧ b = d) := by
    rw [eqv_pair, Bool.eq_iff_iff]
    simp
  have e1 : decide (a < c ∨ a = c ∧ b ≤ d) = (decide (a < c ∨ a = c ∧ b < d) || decide (a = c ∧ b = d)) := by
    rw [Bool.eq_iff_iff]
    simp only [Bool.or_eq_true, decide_eq_true_eq]
    omega
  have e2 : decide (c < a ∨ a = c ∧ d < b) = (!decide (a < c ∨ a = c ∧ b < d) && !decide (a = c ∧ b = d)) := by
    rw [Bool.eq_iff_iff]
    simp only [Bool.and_eq_true, Bool.not_eq_true', decide_eq_true_eq, decide_eq_false_iff_not]
    omega
  have e3 : decide (c < a ∨ a = c ∧ d ≤ b) = (!decide (a < c ∨ a = c ∧ b < d)) := by
    rw [Bool.eq_iff_iff]
    simp only [Bool.not_eq_true', decide_eq_true_eq, decide_eq_false_iff_not]
    omega
  rw [e, e1, e2, e3]
  simp [PyData.eqv, PyData.eqvAll]
theorem absB {x m : Int} (h : (if x < 0 then -x else x) ≤ m) : -m ≤ x ∧ x ≤ m := by
  split at h <;> omega
theorem ltAt {a b c d n m : Int} (hn : n = 1000000000 ∨ n = 1000000000000000000000000000000) (hm : m ≤ 1000000) (ha : -m ≤ a ∧ a ≤ m) (hb : -m ≤ b ∧ b ≤ m) (hc : -m ≤ c ∧ c ≤ m) (hd : -m ≤ d ∧ d ≤ m) : decide (a * n + b < c * n + d) = decide (a < c ∨ a = c ∧ b < d) := by
  rw [Bool.eq_iff_iff]
  simp only [decide_eq_true_eq]
  rcases hn with rfl | rfl <;> omega
theorem eqAt {a b c d n m : Int} (hn : n = 1000000000 ∨ n = 1000000000000000000000000000000) (hm : m ≤ 1000000) (ha : -m ≤ a ∧ a ≤ m) (hb : -m ≤ b ∧ b ≤ m) (hc : -m ≤ c ∧ c ≤ m) (hd : -m ≤ d ∧ d ≤ m) : decide (V.int (a * n + b) = V.int (c * n + d)) = (decide (V.int a = V.int c) && decide (V.int b = V.int d)) := by
  rw [Bool.eq_iff_iff]
  simp only [Bool.and_eq_true, decide_eq_true_eq, V.int.injEq]
  rcases hn with rfl | rfl <;> omega
end Rd
/-! ## max(xs, key=int) of a list of ints -/
namespace MxK
open PySem PySem.Spec PyProof.Rows L2
section
variable {prog : Program} {w : World} {A : Around} {E : Value → Shared → Prop} {s : Shared} {l I S : Addr} {vs : List Value} {ns : List Int} {Z : Result → Shared → Prop}
/-- what the walk keeps: the older objects, the best with its key in S, the walker's place in I -/
structure St (s : Shared) (l I S : Addr) (h : Heap) (j : Nat) (M : Int) (tv tb : Tok) : Prop where
  old : ∀ b o, s.heap.get? b = some o → h.get? b = some o
  sto : ∃ c, h.get? S = some (seqObj "list" #[.int M tv, .int M tb] c)
  itr : h.IsListIter I l j
theorem St.list {h : Heap} {j : Nat} {M : Int} {tv tb : Tok} (K : St s l I S h j M tv tb) (hl : s.heap.IsList l vs.toArray) : h.IsList l vs.toArray := by
  obtain ⟨o, e, r⟩ := hl
  exact ⟨o, K.old _ _ e, r⟩
theorem getD_of {ns : List Int} {i : Nat} {n : Int} (h : ns[i]? = some n) : ns.getD i 0 = n := by simp [h]
theorem item {i : Nat} {v : Value} (hi : IntsAre vs ns) (h : vs[i]? = some v) : ∃ t, v = .int (ns.getD i 0) t ∧ ns.getD i 0 ∈ ns := by
  have hlen := hi.length
  have h1 : i < vs.length := (List.getElem?_eq_some_iff.mp h).1
  have h2 : ns[i]? = some (ns[i]'(by omega)) := List.getElem?_eq_getElem (by omega)
  obtain ⟨t, ht⟩ := hi.get i _ h2
  rw [h] at ht
  cases ht
  exact ⟨t, by rw [getD_of h2], by rw [getD_of h2]; exact List.getElem_mem _⟩
theorem loop (hh : A.handled = none) (hl : s.heap.IsList l vs.toArray) (hi : IntsAre vs ns) (hlI : l ≠ I) (hSI : S ≠ I) (nS : s.heap.get? S = none) (nI : s.heap.get? I = none)
    (done : ∀ h' tk' M t, (∀ b o, s.heap.get? b = some o → h'.get? b = some o) → M ∈ ns → (∀ a ∈ ns, a ≤ M) → Z (.ok (.ret (.int M t))) { s with heap := h', toks := tk' }) :
    ∀ (r j : Nat) (h : Heap) (tk : Nat) (M : Int) (tv tb : Tok), vs.length - j = r → j ≤ vs.length → St s l I S h j M tv tb → M ∈ ns → (∀ i, i < j → ns.getD i 0 ≤ M) →
      codeAny (model prog w) A (.builtin "max.loop" ⟨[.ref I, .type "int", .ref S], []⟩) Z { s with heap := h, toks := tk } := by
  have nm : (toString "max" ++ toString ".loop" : String) = "max.loop" := by decide
  have Wk := Walks.list (prog := prog) (w := w) (A := A.in1) hh I l hlI vs.toArray
  have zs : vs.toArray.size = vs.length := List.size_toArray ..
  have hlen := hi.length
  intro r
  induction r with
  | zero =>
    intro j h tk M tv tb hr hj K hM hb
    have ej : j = vs.length := by omega
    obtain ⟨c, gS⟩ := K.sto
    refine codeAny_builtin PySem.F.entry_max_loop (?_ : _)
    rw [Around.under_plainId (PySem.F.plain_max_loop : _) _]
    show wpAny _ A.in1 (seqItems? (.ref S) >>= fun _ => _) _ _ _
    refine wpAny_bind (wpAny_seqItems gS rfl (?_ : _))
    show wpAny _ A.in1 (tryCatch (pyNext (.ref I)) _ >>= fun _ => _) _ _ _
    refine wpAny_bind (wpAny_tryCatch (Wk.done _ _ _ ⟨by rw [zs, ← ej]; exact K.itr, K.list hl⟩ fun h' tk' kept => ?_))
    have gS' := kept S _ (by simpa using hSI) gS
    have sb := Heap.SameBut.update h' S (Obj.mapSeq fun _ => (#[] : Array Value))
    show wpAny _ A.in1 (updateSeq S (fun _ => #[]) >>= fun _ => _) _ _ _
    refine wpAny_bind (wpAny_updateSeq gS' rfl (wpAny_bind (wpAny_letGo (wpAny_pure (done _ _ M tv (fun b o q => ?_) hM (fun a ha => ?_))))))
    · have nb : b ≠ S := fun z => by rw [z, nS] at q; cases q
      have ni : b ≠ I := fun z => by rw [z, nI] at q; cases q
      rw [sb.2 b nb]
      exact kept b o (by simpa using ni) (K.old b o q)
    · obtain ⟨i, hi1, rfl⟩ := List.getElem_of_mem ha
      have := hb i (by omega)
      rw [getD_of (List.getElem?_eq_getElem hi1)] at this
      exact this
  | succ r ih =>
    intro j h tk M tv tb hr hj K hM hb
    have lt : j < vs.length := by omega
    obtain ⟨c, gS⟩ := K.sto
    refine codeAny_builtin PySem.F.entry_max_loop (?_ : _)
    rw [Around.under_plainId (PySem.F.plain_max_loop : _) _]
    show wpAny _ A.in1 (seqItems? (.ref S) >>= fun _ => _) _ _ _
    refine wpAny_bind (wpAny_seqItems gS rfl (?_ : _))
    show wpAny _ A.in1 (tryCatch (pyNext (.ref I)) _ >>= fun _ => _) _ _ _
    refine wpAny_bind (wpAny_tryCatch (Wk.item j _ _ _ (by rw [zs]; exact lt) ⟨K.itr, K.list hl⟩ fun v h' tk' hP st kept => ?_))
    obtain ⟨t, rfl, hn⟩ := item hi (show vs[j]? = some v by simpa using hP)
    have gS' := kept S _ (by simpa using hSI) gS
    have K' : ∀ b o, s.heap.get? b = some o → h'.get? b = some o := fun b o q => by
      have ni : b ≠ I := fun z => by rw [z, nI] at q; cases q
      exact kept b o (by simpa using ni) (K.old b o q)
    have bN : ∀ x, M ≤ x → ns.getD j 0 ≤ x → ∀ i, i < j + 1 → ns.getD i 0 ≤ x := fun x h1 h2 i hi1 => by
      by_cases e : i = j
      · rw [e]; exact h2
      · exact Int.le_trans (hb i (by omega)) h1
    generalize hx : ns.getD j 0 = x at hn bN ⊢
    show wpAny _ A.in1 (tryCatch (holding [.int x t] (call (.type "int") [.int x t])) _ >>= fun _ => _) _ _ _
    refine wpAny_bind (wpAny_tryCatch (wpAny_holding (call_int_int ?_)))
    show wpAny _ A.in1 (tryCatch (holding [.int x t, .int x t] (richCompare .Gt (.int x t) (.int M tb) >>= fun _ => _)) _ >>= fun _ => _) _ _ _
    refine wpAny_bind (wpAny_tryCatch (wpAny_holding (wpAny_bind (PyProof.Rows.gt_int ?_))))
    refine wpAny_bind (wpAny_holding (wpAny_truthy_bool ?_))
    refine wpAny_bind (wpAny_letGo (wpAny_pure (?_ : _)))
    by_cases q : M < x
    · have sb := Heap.SameBut.update h' S (Obj.mapSeq fun _ => #[.int x t, .int x t])
      have gN : ∃ c2, (h'.update S (Obj.mapSeq fun _ => #[.int x t, .int x t])).get? S = some (seqObj "list" #[.int x t, .int x t] c2) := ⟨_, get?_update_seq gS' fun _ => #[.int x t, .int x t]⟩
      obtain ⟨oI, gI, oc, od⟩ := id st.1
      simp only [q, decide_true, if_true]
      refine wpAny_bind (wpAny_updateSeq gS' rfl (wpAny_bind (wpAny_letGo ?_)))
      rw [nm]
      refine wpAny_pure ⟨plainId_quiet (PySem.F.plain_max_loop : _) _, ih (j + 1) _ _ x t t (by omega) lt ⟨fun b o e => ?_, gN, ⟨oI, (sb.2 I hSI.symm).trans gI, oc, od⟩⟩ hn (bN x (by omega) (Int.le_refl _))⟩
      have nb : b ≠ S := fun z => by rw [z, nS] at e; cases e
      rw [sb.2 b nb]
      exact K' b o e
    · simp only [q, decide_false, Bool.false_eq_true, if_false]
      refine wpAny_bind (wpAny_letGo (?_ : _))
      rw [nm]
      exact wpAny_pure ⟨plainId_quiet (PySem.F.plain_max_loop : _) _, ih (j + 1) _ _ M tv tb (by omega) lt ⟨K', ⟨c, gS'⟩, st.1⟩ hM (bN M (Int.le_refl _) (by omega))⟩
theorem max_key_int {Q : Value → Shared → Prop} (hh : A.handled = none) (hl : s.heap.IsList l vs.toArray) (hi : IntsAre vs ns) (hne : 0 < ns.length)
    (k : ∀ h' tk' M t, (∀ b o, s.heap.get? b = some o → h'.get? b = some o) → M ∈ ns → (∀ a ∈ ns, a ≤ M) → Q (.int M t) { s with heap := h', toks := tk' }) :
    wpAny (model prog w) A (call (.builtin "max") [.ref l] [(Str.ofString "key", .type "int")]) Q E s := by
  have nm : (toString "max" ++ toString ".loop" : String) = "max.loop" := by decide
  obtain ⟨ol, el, _⟩ := id hl
  have hlen := hi.length
  have ll : l < s.heap.objs.size := Heap.lt_size el
  refine kmb_tree PySem.F.kind_max PySem.F.plain_max PySem.F.entry_max (kmb_max_key _ _) (?_ : _)
  show wpAny _ A.in1 (Builtin.Builtins.bindParams "max" ["key", "default"] 0 ⟨[], [(Str.ofString "key", .type "int")]⟩ >>= fun _ => _) _ _ s
  refine wpAny_bind (wpAny_of_eq (show Builtin.Builtins.bindParams "max" ["key", "default"] 0 ⟨[], [(Str.ofString "key", .type "int")]⟩ = pure [some (.type "int"), none] from rfl) (wpAny_bind (wpAny_pure ?_)))
  refine wpAny_bind (wpAny_pyIter_list hl (wpAny_bind (wpAny_newList ?_ (Nat.zero_le _))))
  rw [nm]
  generalize hG : s.heap.push { cls := .type "list_iterator", data := .fields #[.ref l, .int 0 0] } = G
  have gz : G.objs.size = s.heap.objs.size + 1 := by rw [← hG]; exact size_push' ..
  have gI0 : G.get? s.heap.objs.size = some { cls := .type "list_iterator", data := .fields #[.ref l, .int 0 0] } := by rw [← hG]; exact Heap.get?_push_size _ rfl
  have gI : (G.push (seqObj "list" #[] 0)).get? s.heap.objs.size = some { cls := .type "list_iterator", data := .fields #[.ref l, .int 0 0] } := Heap.get?_push_of_some _ gI0
  have gS : (G.push (seqObj "list" #[] 0)).get? G.objs.size = some (seqObj "list" #[] 0) := Heap.get?_push_size _ rfl
  have old : ∀ b o, s.heap.get? b = some o → (G.push (seqObj "list" #[] 0)).get? b = some o := fun b o e => by
    rw [← hG]
    exact Heap.get?_push_of_some _ (Heap.get?_push_of_some _ e)
  have hlI : l ≠ s.heap.objs.size := Nat.ne_of_lt ll
  have hSI : G.objs.size ≠ s.heap.objs.size := by omega
  have nI : s.heap.get? s.heap.objs.size = none := Heap.get?_none_of_le (Nat.le_refl _)
  have nS : s.heap.get? G.objs.size = none := Heap.get?_none_of_le (by omega)
  have Wk := Walks.list (prog := prog) (w := w) (A := A.in1) hh s.heap.objs.size l hlI vs.toArray
  have zs : vs.toArray.size = vs.length := List.size_toArray ..
  refine wpAny_pure ⟨plainId_quiet (PySem.F.plain_max_loop : _) _, codeAny_builtin PySem.F.entry_max_loop (?_ : _)⟩
  rw [Around.under_plainId (PySem.F.plain_max_loop : _) _]
  show wpAny _ A.in1 (seqItems? (.ref _) >>= fun _ => _) _ _ _
  refine wpAny_bind (wpAny_seqItems gS rfl (?_ : _))
  show wpAny _ A.in1 (tryCatch (pyNext (.ref s.heap.objs.size)) _ >>= fun _ => _) _ _ _
  have ol2 : (G.push (seqObj "list" #[] 0)).IsList l vs.toArray := by
    obtain ⟨o, e, z⟩ := id hl
    exact ⟨o, old _ _ e, z⟩
  refine wpAny_bind (wpAny_tryCatch (Wk.item 0 _ _ _ (by rw [zs]; omega) ⟨⟨_, gI, rfl, rfl⟩, ol2⟩ fun v h' tk' hP st kept => ?_))
  obtain ⟨t, rfl, hn⟩ := item hi (show vs[0]? = some v by simpa using hP)
  have gS' := kept _ _ (by simpa using hSI) gS
  generalize hx : ns.getD 0 0 = x at hn ⊢
  show wpAny _ A.in1 (tryCatch (holding [.int x t] (call (.type "int") [.int x t])) _ >>= fun _ => _) _ _ _
  refine wpAny_bind (wpAny_tryCatch (wpAny_holding (call_int_int ?_)))
  have sb := Heap.SameBut.update h' G.objs.size (Obj.mapSeq fun _ => #[.int x t, .int x t])
  have gN : ∃ c2, (h'.update G.objs.size (Obj.mapSeq fun _ => #[.int x t, .int x t])).get? G.objs.size = some (seqObj "list" #[.int x t, .int x t] c2) := ⟨_, get?_update_seq gS' fun _ => #[.int x t, .int x t]⟩
  obtain ⟨oI, gI', oc, od⟩ := id st.1
  show wpAny _ A.in1 (updateSeq G.objs.size (fun _ => #[.int x t, .int x t]) >>= fun _ => _) _ _ _
  refine wpAny_bind (wpAny_updateSeq gS' rfl (?_ : _))
  rw [nm]
  refine wpAny_pure ⟨plainId_quiet (PySem.F.plain_max_loop : _) _, loop hh hl hi hlI hSI nS nI (fun h2 tk2 M t2 q hM hb => k h2 tk2 M t2 q hM hb) _ 1 _ _ x t t rfl (by omega) ⟨fun b o e => ?_, gN, ⟨oI, (sb.2 _ hSI.symm).trans gI', oc, od⟩⟩ hn (fun i hi1 => ?_)⟩
  · have nb : b ≠ G.objs.size := fun z => by rw [z, nS] at e; cases e
    have ni : b ≠ s.heap.objs.size := fun z => by rw [z, nI] at e; cases e
    rw [sb.2 b nb]
    exact kept b o (by simpa using ni) (old b o e)
  · have e : i = 0 := by omega
    rw [e, hx]
    exact Int.le_refl _
end
def rMaxK (K : PySem.W.Frag) : List V → List V → Hp → VK → Prop := fun vs zs H Q => ∃ (a : Addr) (ns : List Int), vs = [V.ref a] ∧ zs = [.ty "int"] ∧ SqL K H a (ns.map V.int) ∧ 0 < ns.length ∧ ∀ m, m ∈ ns → (∀ y, y ∈ ns → y ≤ m) → Q (.int m) H
theorem ck_max {X : Cx} (hc : X.calm = true) : CallRK X (.builtin "max") ["key"] (rMaxK X.K) := by
  intro pins s σ H xs zs us ws Q I r r2 h
  obtain ⟨a, ns, rfl, rfl, hs, hne, q⟩ := h
  obtain ⟨its, rv, hl, _⟩ := I.list hs
  obtain ⟨u, rfl, ru⟩ := vals1 r2
  cases ru
  rw [Vals.ref1 r]
  exact max_key_int (I.ok.hd hc) hl.isList rv.ints hne fun h' tk m t' hk h1 h2 => ⟨.int _, H, I.kept hk, ⟨_, rfl⟩, q m h1 h2⟩
end MxK

/-! ## heaps: what a step leaves -/
def Frm (a : Nat) (H H' : L2.Hp) : Prop := ∀ b o, H b = some o → b ≠ a → H' b = some o
section
open PySem L2
variable {H H' H1 H2 : Hp} {a b p : Nat} {o u : HO}
theorem Frm.get (f : Frm a H H') (h : H b = some o) (n : b ≠ a) : H' b = some o := f b o h n
theorem Sget (f : L2.Same H H') (h : H b = some o) : H' b = some o := f b o h
theorem Frm.free (f : Frm a H H') (n : b ≠ a) (h : H' b = none) : H b = none := by
  cases q : H b with
  | none => rfl
  | some o => rw [f b o q n] at h; cases h
theorem Sfree (f : L2.Same H H') (h : H' b = none) : H b = none := L2.Same.free f h
theorem updFree (h : upd H a o b = none) : H b = none := by
  unfold upd at h
  split at h
  · cases h
  · exact h
theorem updGet' (h : H b = some o) (n : b ≠ a) : upd H a u b = some o := by rw [upd_ne n]; exact h
theorem ne_none (h : H b = none) (h' : H a = some o) : a ≠ b := ne_of_none h' h
theorem ne_none' (h : H a = none) (h' : H b = some o) : a ≠ b := (ne_of_none h' h).symm
theorem updFresh (n : H a = none) (h : H b = some o) : upd H a u b = some o := updGet' h (ne_of_none h n)
theorem updMade {x dx : Nat} {v : HO} (n : H x = none) (m : H dx = none) (h : H b = some o) : upd (upd H dx u) x v b = some o := updGet' (updGet' h (ne_of_none h m)) (ne_of_none h n)
theorem Frm.get' (f : Frm a H H') (n : b ≠ a) (h : H b = some o) : H' b = some o := f b o h n
theorem updGet (n : b ≠ a) (h : H b = some o) : upd H a u b = some o := by rw [upd_ne n]; exact h
end

local macro_rules | `(tactic| walk_at "hp") => `(tactic| first
  | with_reducible assumption
  | with_reducible exact L2.upd_same
  | ((with_reducible apply updFresh); (· with_reducible assumption); (· walk_at "hp"))
  | ((with_reducible apply updMade); (· with_reducible assumption); (· with_reducible assumption); (· walk_at "hp"))
  | ((with_reducible apply updGet); (· walk_at "ne"); (· walk_at "hp"))
  | ((with_reducible apply Sget); (· with_reducible assumption); (· walk_at "hp"))
  | ((with_reducible apply Frm.get'); (· with_reducible assumption); (· walk_at "ne"); (· walk_at "hp"))
  | fail "hp")
local macro_rules | `(tactic| walk_at "ne") => `(tactic| first
  | with_reducible assumption
  | exact Ne.symm (by with_reducible assumption)
  | ((with_reducible apply ne_none); (· with_reducible assumption); (· walk_at "hp"))
  | ((with_reducible apply ne_none'); (· with_reducible assumption); (· walk_at "hp"))
  | ((with_reducible apply L2.ne_of); (· walk_at "hp"); (· walk_at "hp"); (· (intro z; cases z)))
  | fail "ne")
local macro_rules | `(tactic| walk_at "vr") => `(tactic| with_unfolding_all rfl)
local macro_rules | `(tactic| walk_at "hpl") => `(tactic| first
  | with_reducible assumption
  | ((with_reducible apply L2.SqL.of); walk_at "hp"))
local macro_rules | `(tactic| walk_at "hpt") => `(tactic| first
  | with_reducible assumption
  | ((with_reducible apply L2.SqT.of); walk_at "hp"))
local macro_rules | `(tactic| walk_at "hpq") => `(tactic| first
  | with_reducible assumption
  | (apply Or.inl; walk_at "hpl")
  | (apply Or.inr; walk_at "hpt"))
local macro_rules | `(tactic| walk_at "sc") => `(tactic| first
  | with_reducible assumption
  | omega
  | decide
  | ((repeat' split) <;> omega))
local macro_rules | `(tactic| walk_at "scp") => `(tactic| (unfold L2.CPow; omega))
local macro_rules | `(tactic| walk_at "ll") => `(tactic| with_unfolding_all exact Nat.le_of_ble_eq_true rfl)
theorem wm {i j : Int} (hi : -(2 ^ 200) < i ∧ i < 2 ^ 200) (hj : -(2 ^ 200) < j ∧ j < 2 ^ 200) : L2.CMulW i j :=
  L2.wide_mul (a := 200) (b := 200) (by omega) (by omega) (by decide) (by decide) (by decide)
theorem wd {i j : Int} (h : 0 < j) (hj : j < 2 ^ 200) : L2.CDivW i j :=
  L2.wide_div (b := 200) h (by omega) (by decide) (by decide)
local macro_rules | `(tactic| walk_at "scm") => `(tactic| exact wm ⟨by walk_at "sc", by walk_at "sc"⟩ ⟨by walk_at "sc", by walk_at "sc"⟩)
local macro_rules | `(tactic| walk_at "scd") => `(tactic| exact wd (by walk_at "sc") (by walk_at "sc"))
local macro_rules | `(tactic| walk_at "clsv") => `(tactic| first | exact L2.ClsV.ty _ | exact L2.ClsV.own _)
local macro_rules | `(tactic| walk_at "kit") => `(tactic| first | with_reducible exact Rd.kit_int_int | with_reducible exact Rd.kit_int_bool | with_reducible exact Rd.kit_bool_bool | with_reducible exact Rd.kit_str_str | with_reducible exact Rd.kit_bool_int | with_reducible exact Rd.kit_str_int | with_reducible exact Rd.kit_none_int | with_reducible exact Rd.kit_tuple_int | with_reducible exact Rd.kit_list_int | with_reducible exact Rd.kit_dict_int | with_reducible exact Rd.kit_str_bool | with_reducible exact Rd.kit_int_str | with_reducible assumption)
local macro_rules | `(tactic| walk_at "nf") => `(tactic| with_reducible assumption)
local macro_rules | `(tactic| walk_at "tyx") => `(tactic| first | exact L2.TyX.base (L2.TyOf.int _) | exact L2.TyX.base (L2.TyOf.bl _) | exact L2.TyX.base L2.TyOf.non | exact L2.TyX.base (L2.TyOf.str _) | ((with_reducible apply Rd.ty_tup); walk_at "hp") | ((with_reducible apply Rd.ty_lst); walk_at "hp"))
local macro_rules | `(tactic| walk_at "frm") => `(tactic| first | (intro b o hb; walk_at "hp") | (intro b o hb hn; walk_at "hp"))
local macro_rules | `(tactic| walk_at "nn") => `(tactic| first
  | with_reducible assumption
  | exact updFree (by with_reducible assumption)
  | exact updFree (updFree (by with_reducible assumption))
  | exact updFree (updFree (updFree (by with_reducible assumption)))
  | exact updFree (updFree (updFree (updFree (by with_reducible assumption))))
  | exact updFree (updFree (updFree (updFree (updFree (by with_reducible assumption)))))
  | exact updFree (updFree (updFree (updFree (updFree (updFree (by with_reducible assumption))))))
  | exact updFree (updFree (updFree (updFree (updFree (updFree (updFree (by with_reducible assumption)))))))
  | exact updFree (updFree (updFree (updFree (updFree (updFree (updFree (updFree (by with_reducible assumption))))))))
  | exact updFree (updFree (updFree (updFree (updFree (updFree (updFree (updFree (updFree (by with_reducible assumption)))))))))
  | exact updFree (updFree (updFree (updFree (updFree (updFree (updFree (updFree (updFree (updFree (by with_reducible assumption))))))))))
  | exact updFree (updFree (updFree (updFree (updFree (updFree (updFree (updFree (updFree (updFree (updFree (by with_reducible assumption)))))))))))
  | exact updFree (updFree (updFree (updFree (updFree (updFree (updFree (updFree (updFree (updFree (updFree (updFree (by with_reducible assumption))))))))))))
  | exact updFree (updFree (updFree (updFree (updFree (updFree (updFree (updFree (updFree (updFree (updFree (updFree (updFree (by with_reducible assumption)))))))))))))
  | exact updFree (updFree (updFree (updFree (updFree (updFree (updFree (updFree (updFree (updFree (updFree (updFree (updFree (updFree (by with_reducible assumption))))))))))))))
  | exact updFree (updFree (updFree (updFree (updFree (updFree (updFree (updFree (updFree (updFree (updFree (updFree (updFree (updFree (updFree (by with_reducible assumption)))))))))))))))
  | exact updFree (updFree (updFree (updFree (updFree (updFree (updFree (updFree (updFree (updFree (updFree (updFree (updFree (updFree (updFree (updFree (by with_reducible assumption))))))))))))))))
  | exact updFree (updFree (updFree (updFree (updFree (updFree (updFree (updFree (updFree (updFree (updFree (updFree (updFree (updFree (updFree (updFree (updFree (by with_reducible assumption)))))))))))))))))
  | exact updFree (updFree (updFree (updFree (updFree (updFree (updFree (updFree (updFree (updFree (updFree (updFree (updFree (updFree (updFree (updFree (updFree (updFree (by with_reducible assumption))))))))))))))))))
  | ((with_reducible apply Sfree); (· with_reducible assumption); (· walk_at "nn")))
local macro_rules | `(tactic| walk_at "em") => `(tactic| first | rfl | (simp only [Int.emod_add_emod, Int.emod_sub_emod, Int.sub_emod_emod, Int.emod_emod]; first | done | rfl | (congr 1; omega)))
local macro_rules | `(tactic| walk_at "dp") => `(tactic| first | ((with_reducible apply Rd.dp_nil); walk_at "hpl") | ((with_reducible apply Rd.dp_listI); walk_at "hpl") | ((with_reducible apply Rd.dp_pair); walk_at "hpt") | ((with_reducible apply L2.Dp.lst); (· walk_at "hpl"); (· walk_at "dpa")) | ((with_reducible apply L2.Dp.tup); (· walk_at "hpt"); (· walk_at "dpa")))
local macro_rules | `(tactic| walk_at "dpt") => `(tactic| first | ((with_reducible apply Rd.dp_pair); (· walk_at "hpt")) | ((with_reducible apply L2.Dp.tup); (· walk_at "hpt"); (· walk_at "dpa")) | fail "dpt")
local macro_rules | `(tactic| walk_at "dpa") => `(tactic| first | with_reducible exact L2.DpAll.nil | ((with_reducible apply L2.DpAll.cons); (· walk_at "dp1"); (· walk_at "dpa")))
local macro_rules | `(tactic| walk_at "dp1") => `(tactic| first | with_reducible exact L2.Dp.int _ | with_reducible exact L2.Dp.bl _ | with_reducible exact L2.Dp.str _ | with_reducible exact L2.Dp.non | walk_at "dp")
local macro_rules | `(tactic| walk_at "shp") => `(tactic| first | with_reducible exact Rd.shaped_pair _ _ | with_reducible exact Rd.shaped_listI _ | with_reducible exact Rd.shaped_nil | (simp only [PySem.SeqAt.shaped, PySem.PyData.canLay0, PySem.PyData.canLayAll0, PySem.PyData.depth, PySem.PyData.depthAll]; rfl))
local macro_rules | `(tactic| walk_at "ty0") => `(tactic| exact Own.ty_int)
local macro_rules | `(tactic| walk_at "sfl") => `(tactic| first | with_unfolding_all exact Nat.le_of_ble_eq_true rfl | ((refine Rd.lput ?_); (repeat refine Rd.lputs ?_); with_unfolding_all exact Nat.le_of_ble_eq_true rfl))
local macro_rules | `(tactic| walk_at "ixn") => `(tactic| first | with_unfolding_all rfl | decide)
local macro_rules | `(tactic| walk_at "bT") => `(tactic| first | (simp only [PySem.PyData.eqv, PySem.PyData.eqvAll, beq_self_eq_true, Bool.and_self]; done) | (exact decide_eq_true rfl) | (simp only [L2.V.int.injEq, L2.V.bl.injEq, decide_eq_true_eq]; omega) | with_unfolding_all rfl | with_reducible assumption | exact decide_eq_true (by walk_at "sc"))
local macro_rules | `(tactic| walk_at "bF") => `(tactic| first | (simp only [← Int.sub_emod, decide_true, Bool.not_true]; done) | (simp only [L2.V.int.injEq, Int.emod_eq_emod_iff_emod_sub_eq_zero, eq_self, decide_true, Bool.true_and, Bool.not_true]; done) | (simp only [Rd.eqv_pairV, Rd.eqv_listI, Rd.eqv_nil, Bool.and_self, Bool.not_true, decide_true]; done) | with_unfolding_all rfl | with_reducible assumption | exact decide_eq_false (by walk_at "sc") | (simp only [L2.V.int.injEq, L2.V.bl.injEq, decide_eq_false_iff_not, Bool.not_eq_false', Bool.not_eq_eq_eq_not, Bool.not_false, decide_eq_true_eq]; omega) | (simp only [L2.V.int.injEq, Bool.and_eq_false_iff, decide_eq_false_iff_not]; first | omega | exact Or.inl (by omega)))

/-! ## the law's source of numbers: two ints in a list -/
section
open PySem L2
/-- what stands in the list -/
def SrcO (o : HO) : Prop := ∃ x y : Int, o = .lst [.int x, .int y] ∧ 0 ≤ x ∧ 0 ≤ y ∧ y < 2147483647
/-- a draw -/
abbrev spDraw : Sp := fun vs H Q _ => ∃ (a : Addr) (o : HO) (m : Int), vs = [.ref a, .int m] ∧ H a = some o ∧ SrcO o ∧ 0 < m ∧ m < 2 ^ 190 ∧
  ∀ (d : Int) (o' : HO), 0 ≤ d → d < m → SrcO o' → Q (.int d) (upd H a o')
/-- a fresh source -/
abbrev spSource (K : PySem.W.Frag) : Sp := fun vs H Q _ => ∃ (a : Addr) (ns : List Int) (t : Int), vs = [.ref a, .int t] ∧ SqL K H a (ns.map V.int) ∧ 0 ≤ t ∧ t < 1000000 ∧
  ∀ (p : Addr) (o : HO), H p = none → SrcO o → Q (.ref p) (upd H p o)
theorem sq_nonneg {y : Int} (h : 0 ≤ y) : 0 ≤ y * y := Int.mul_nonneg h h
theorem atI_map {ns : List Int} {t : Int} (h0 : 0 ≤ t) (h : t < (ns.length : Int)) : ∃ z : Int, atI (ns.map V.int) t = some (.int z) := by
  obtain ⟨j, rfl⟩ : ∃ j : Nat, t = (j : Int) := ⟨t.toNat, by omega⟩
  have hj : j < ns.length := by omega
  exact ⟨ns[j], atI_nat (by rw [List.getElem?_map, List.getElem?_eq_getElem hj]; rfl)⟩
/-- an item of a list of ints at a drawn place: what all its items keep -/
theorem pickI {ns : List Int} {P : Int → Prop} (hP : ∀ n ∈ ns, P n) {d : Int} (h0 : 0 ≤ d) (h : d < (ns.length : Int)) : ∃ n : Int, atI (ns.map V.int) d = some (.int n) ∧ P n := by
  obtain ⟨j, rfl⟩ : ∃ j : Nat, d = (j : Int) := ⟨d.toNat, by omega⟩
  have hj : j < ns.length := by omega
  exact ⟨ns[j], atI_nat (by rw [List.getElem?_map, List.getElem?_eq_getElem hj]; rfl), hP _ (List.getElem_mem hj)⟩
end

namespace Pk02
open PySem L2
def top (i : Nat) : Stmt := PySem.Challenge.pw_ringindexes_k02_forms_compared.main.body.getD i (.Pass ⟨0, 0, 0, 0⟩)
abbrev s_is_whole : Stmt := top 6
abbrev s_is_whole_from : Stmt := top 7
abbrev s_is_size : Stmt := top 8
abbrev s_check_size : Stmt := top 9
abbrev s_Formu__initu_ : Stmt := inClass (top 13) 0
abbrev s_form_at : Stmt := top 14
abbrev s_Formu__callu_ : Stmt := inClass (top 13) 1
abbrev s_Formu__equ_ : Stmt := inClass (top 13) 9
abbrev s_place_of : Stmt := top 16
abbrev s_Formu__ltu_ : Stmt := inClass (top 13) 10
abbrev s_Formu__leu_ : Stmt := inClass (top 13) 11
abbrev s_Formu__gtu_ : Stmt := inClass (top 13) 12
abbrev s_Formu__geu_ : Stmt := inClass (top 13) 13
abbrev s_l_source : Stmt := top 23
abbrev s_l_draw : Stmt := top 24
abbrev s_l_form : Stmt := top 26
abbrev s_l_compared : Stmt := top 28
abbrev s_law : Stmt := top 29
theorem q_base_slope : ¬ (("base" : Str) = "slope") := by decide +kernel
theorem q_slope_base : ¬ (("slope" : Str) = "base") := by decide +kernel
local macro_rules | `(tactic| walk_at "lk") => `(tactic| first | with_unfolding_all rfl | (simp only [List.lookup, L2.putF, beq_iff_eq, beq_self_eq_true, q_base_slope, (beq_eq_false_iff_ne.mpr q_base_slope), q_slope_base, (beq_eq_false_iff_ne.mpr q_slope_base)]; first | done | rfl))
structure Adr where
  f_is_whole : Addr
  d_is_whole : FuncData
  f_is_whole_from : Addr
  d_is_whole_from : FuncData
  f_is_size : Addr
  d_is_size : FuncData
  f_check_size : Addr
  d_check_size : FuncData
  f_Formu__initu_ : Addr
  d_Formu__initu_ : FuncData
  f_form_at : Addr
  d_form_at : FuncData
  f_Formu__callu_ : Addr
  d_Formu__callu_ : FuncData
  f_Formu__equ_ : Addr
  d_Formu__equ_ : FuncData
  f_place_of : Addr
  d_place_of : FuncData
  f_Formu__ltu_ : Addr
  d_Formu__ltu_ : FuncData
  f_Formu__leu_ : Addr
  d_Formu__leu_ : FuncData
  f_Formu__gtu_ : Addr
  d_Formu__gtu_ : FuncData
  f_Formu__geu_ : Addr
  d_Formu__geu_ : FuncData
  f_l_source : Addr
  d_l_source : FuncData
  f_l_draw : Addr
  d_l_draw : FuncData
  f_l_form : Addr
  d_l_form : FuncData
  f_l_compared : Addr
  d_l_compared : FuncData
  f_law : Addr
  d_law : FuncData
  c_Form : Addr
  t_GREATEST_SIZE : Tok
structure IsC (K : PySem.W.Frag) (C : Addr) : Prop where
  ha : PySem.W.findIn K (.ref C) "__class__" = some (some (.builtin "object.__class__"))
  hn : PySem.W.specialIn K (.builtin "object.__class__") "__get__" = some (some (.builtin "getset_descriptor.__get__"))
  htk : PySem.W.takesIn K (.builtin "object.__class__") = some true
  hm : PySem.W.mroIn K C (.type "object") = some true
theorem ty_own {K : PySem.W.Frag} {H : Hp} {a C dx : Addr} {fs : List (Str × V)} (e : H a = some (.ins C dx fs)) (k : Cls K C) (i : IsC K C) : TyX K H (.ref a) (.ref C) := .base (.ins e k i.ha i.hn i.htk i.hm)
local macro_rules | `(tactic| walk_at "tyx") => `(tactic| ((with_reducible apply ty_own); (· walk_at "hp"); (· with_reducible assumption); (· with_reducible assumption)))
structure Txt (K : PySem.W.Frag) (mg : Str → Option Value) (A : Adr) : Prop where
  n_abs : mg "abs" = none
  n_bool : mg "bool" = none
  n_int : mg "int" = none
  n_isinstance : mg "isinstance" = none
  n_len : mg "len" = none
  n_max : mg "max" = none
  n_min : mg "min" = none
  n_range : mg "range" = none
  m_GREATEST_SIZE : mg "GREATEST_SIZE" = some (.int (1000000000000000000000000000000) A.t_GREATEST_SIZE)
  m_Form : mg "Form" = some (.ref A.c_Form)
  k_Form : Cls K A.c_Form
  n_Form_slope : NoAttr K A.c_Form "slope"
  n_Form_base : NoAttr K A.c_Form "base"
  K_Form : Mk K A.c_Form A.f_Formu__initu_
  i_Form : IsC K A.c_Form
  kt_Form_Form : PySem.W.kitOne K (.ref A.c_Form) (.ref A.c_Form) = some true
  kt_int_Form : PySem.W.kitOne K (.type "int") (.ref A.c_Form) = some false
  m_is_whole : mg "is_whole" = some (.ref A.f_is_whole)
  F_is_whole : Fun K "is_whole" "is_whole" s_is_whole A.f_is_whole A.d_is_whole
  b_is_whole : Binds K A.d_is_whole ["thing"] []
  m_is_whole_from : mg "is_whole_from" = some (.ref A.f_is_whole_from)
  F_is_whole_from : Fun K "is_whole_from" "is_whole_from" s_is_whole_from A.f_is_whole_from A.d_is_whole_from
  b_is_whole_from : Binds K A.d_is_whole_from ["thing", "low", "high"] []
  m_is_size : mg "is_size" = some (.ref A.f_is_size)
  F_is_size : Fun K "is_size" "is_size" s_is_size A.f_is_size A.d_is_size
  b_is_size : Binds K A.d_is_size ["thing"] []
  m_check_size : mg "check_size" = some (.ref A.f_check_size)
  F_check_size : Fun K "check_size" "check_size" s_check_size A.f_check_size A.d_check_size
  b_check_size : Binds K A.d_check_size ["n"] []
  F_Formu__initu_ : Fun K "__init__" "Form.__init__" s_Formu__initu_ A.f_Formu__initu_ A.d_Formu__initu_
  b_Formu__initu_ : Binds K A.d_Formu__initu_ ["self", "slope", "base"] []
  m_form_at : mg "form_at" = some (.ref A.f_form_at)
  F_form_at : Fun K "form_at" "form_at" s_form_at A.f_form_at A.d_form_at
  b_form_at : Binds K A.d_form_at ["form", "n"] []
  F_Formu__callu_ : Fun K "__call__" "Form.__call__" s_Formu__callu_ A.f_Formu__callu_ A.d_Formu__callu_
  b_Formu__callu_ : Binds K A.d_Formu__callu_ ["self", "n"] []
  F_Formu__equ_ : Fun K "__eq__" "Form.__eq__" s_Formu__equ_ A.f_Formu__equ_ A.d_Formu__equ_
  b_Formu__equ_ : Binds K A.d_Formu__equ_ ["self", "other"] []
  m_place_of : mg "place_of" = some (.ref A.f_place_of)
  F_place_of : Fun K "place_of" "place_of" s_place_of A.f_place_of A.d_place_of
  b_place_of : Binds K A.d_place_of ["thing"] []
  F_Formu__ltu_ : Fun K "__lt__" "Form.__lt__" s_Formu__ltu_ A.f_Formu__ltu_ A.d_Formu__ltu_
  b_Formu__ltu_ : Binds K A.d_Formu__ltu_ ["self", "other"] []
  F_Formu__leu_ : Fun K "__le__" "Form.__le__" s_Formu__leu_ A.f_Formu__leu_ A.d_Formu__leu_
  b_Formu__leu_ : Binds K A.d_Formu__leu_ ["self", "other"] []
  F_Formu__gtu_ : Fun K "__gt__" "Form.__gt__" s_Formu__gtu_ A.f_Formu__gtu_ A.d_Formu__gtu_
  b_Formu__gtu_ : Binds K A.d_Formu__gtu_ ["self", "other"] []
  F_Formu__geu_ : Fun K "__ge__" "Form.__ge__" s_Formu__geu_ A.f_Formu__geu_ A.d_Formu__geu_
  b_Formu__geu_ : Binds K A.d_Formu__geu_ ["self", "other"] []
  m_l_source : mg "_law_source" = some (.ref A.f_l_source)
  F_l_source : Fun K "_law_source" "_law_source" s_l_source A.f_l_source A.d_l_source
  b_l_source : Binds K A.d_l_source ["_law_script", "_law_turn"] []
  m_l_draw : mg "_law_draw" = some (.ref A.f_l_draw)
  F_l_draw : Fun K "_law_draw" "_law_draw" s_l_draw A.f_l_draw A.d_l_draw
  b_l_draw : Binds K A.d_l_draw ["_law_source_here", "_law_amount"] []
  m_l_form : mg "_law_form" = some (.ref A.f_l_form)
  F_l_form : Fun K "_law_form" "_law_form" s_l_form A.f_l_form A.d_l_form
  b_l_form : Binds K A.d_l_form ["_law_source_here"] []
  m_l_compared : mg "_law_compared" = some (.ref A.f_l_compared)
  F_l_compared : Fun K "_law_compared" "_law_compared" s_l_compared A.f_l_compared A.d_l_compared
  b_l_compared : Binds K A.d_l_compared ["_law_one", "_law_other"] []
  m_law : mg "law" = some (.ref A.f_law)
  F_law : Fun K "law" "law" s_law A.f_law A.d_law
  b_law : Binds K A.d_law ["_law_script"] []
  O_Formu__callu__C : StX.CallO K A.c_Form A.f_Formu__callu_
  O_Formu__equ__1 : Own.Sp1 K A.c_Form "__eq__" A.f_Formu__equ_
  O_Formu__equ__N : Own.Ne K A.c_Form A.f_Formu__equ_
  O_Formu__ltu__1 : Own.Sp1 K A.c_Form "__lt__" A.f_Formu__ltu_
  O_Formu__leu__1 : Own.Sp1 K A.c_Form "__le__" A.f_Formu__leu_
  O_Formu__gtu__1 : Own.Sp1 K A.c_Form "__gt__" A.f_Formu__gtu_
  O_Formu__geu__1 : Own.Sp1 K A.c_Form "__ge__" A.f_Formu__geu_
  nf_Form_Form : PySem.W.notFirst K A.c_Form (.ref A.c_Form) = true
  nf_int_Form : PySem.W.notFirst K A.c_Form (.type "int") = true

/-- a form's fields -/
def fF (s b : Int) : List (Str × V) := [("slope", .int s), ("base", .int b)]
theorem fF_slope (s b : Int) : (fF s b).lookup ("slope" : Str) = some (V.int s) := by unfold fF; walk_at "lk"
theorem fF_base (s b : Int) : (fF s b).lookup ("base" : Str) = some (V.int b) := by unfold fF; walk_at "lk"
theorem fF_put (s b : Int) : putF "base" (.int b) (putF "slope" (.int s) []) = fF s b := by
  show (if ("slope" : Str) = "base" then _ else (("slope" : Str), V.int s) :: putF "base" (V.int b) []) = _
  rw [if_neg q_slope_base] <;> rfl
local macro_rules | `(tactic| walk_at "lk") => `(tactic| first | exact fF_slope _ _ | exact fF_base _ _)
def Form (A : Adr) (H : Hp) (p : Addr) (s b : Int) : Prop := ∃ dx, H p = some (.ins A.c_Form dx (fF s b))
/-- what may stand beside a form: a form, or an int -/
def ArgF (A : Adr) (H : Hp) (y : V) (c d : Int) : Prop := (∃ q dq, y = .ref q ∧ H q = some (.ins A.c_Form dq (fF c d))) ∨ (c = 0 ∧ y = .int d)
local macro_rules | `(tactic| walk_at "argf") => `(tactic| first | with_reducible assumption | exact Or.inl ⟨_, _, rfl, by walk_at "hp"⟩ | exact Or.inr ⟨rfl, rfl⟩)

section
variable {P : Program} {w : World} {K : PySem.W.Frag} {mg : Str → Option Value} {base : Heap} {A : Adr}
/-! is_whole -/
theorem sc_is_whole : FnScope ["thing"] ["thing"] (defScope s_is_whole) := ⟨rfl, rfl, rfl, by decide +kernel, rfl, by decide +kernel, by decide +kernel⟩
abbrev sp_is_whole (K : PySem.W.Frag) (A : Adr) : Sp := fun vs H Q _ => ∃ i : Int, vs = [.int i] ∧ Q (.bl true) H
theorem ok_is_whole (T : Txt K mg A) : FnOk P w K mg base CX0 1 A.f_is_whole A.d_is_whole ["thing"] (sp_is_whole K A) := by
  refine T.F_is_whole.ok sc_is_whole (fun vs H Q E h => ?_) (fun cdv Ar outer s H vs Q E hr h => ?_)
  · obtain ⟨i, rfl, k⟩ := h
    rfl
  · obtain ⟨i, rfl, k⟩ := h
    have hu := hu_of hr
    have t_i_Form := T.i_Form
    have t_kt_Form_Form := T.kt_Form_Form
    have t_kt_int_Form := T.kt_int_Form
    have t_nf_Form_Form := T.nf_Form_Form
    have t_nf_int_Form := T.nf_int_Form
    have t_k_Form := T.k_Form
    refine ⟨_, (pss_one (ps_ret (pe_and (pe_callB (Rd.isi (K := K) rfl) (by rfl) T.n_isinstance (by decide +kernel) (pa_cons (pv 0) (pa_cons (pe_bltn (v := .ty "int") (u := .type "int") (by rfl) T.n_int (by decide +kernel) rfl) pa_nil))) (pe_one (pe_not (pe_callB (Rd.isi (K := K) rfl) (by rfl) T.n_isinstance (by decide +kernel) (pa_cons (pv 0) (pa_cons (pe_bltn (v := .ty "bool") (u := .type "bool") (by rfl) T.n_bool (by decide +kernel) rfl) pa_nil)))))))), ?_⟩
    try dsimp only [L2.cxOf, L2.Cx.nox, L2.Cx.wish]
    with_reducible refine Rd.ret (Rd.andV (Rd.cB (Rd.cons (Rd.var (by walk_at "vr") (Rd.cons (Rd.c (Rd.nil ?_)))))))
    refine ⟨_, _, _, _, _, rfl, (by walk_at "clsv"), (by walk_at "tyx"), (by walk_at "kit"), ?_⟩
    with_reducible refine Rd.bl (Rd.iteT (by walk_at "bT") (Rd.notV (Rd.cB (Rd.cons (Rd.var (by walk_at "vr") (Rd.cons (Rd.c (Rd.nil ?_))))))))
    refine ⟨_, _, _, _, _, rfl, (by walk_at "clsv"), (by walk_at "tyx"), (by walk_at "kit"), ?_⟩
    with_reducible refine Rd.bl ?_
    exact k
/-! is_whole_from -/
theorem sc_is_whole_from : FnScope ["thing", "low", "high"] ["thing", "low", "high"] (defScope s_is_whole_from) := ⟨rfl, rfl, rfl, by decide +kernel, rfl, by decide +kernel, by decide +kernel⟩
abbrev sp_is_whole_from (K : PySem.W.Frag) (A : Adr) : Sp := fun vs H Q _ => ∃ i lo hi : Int, vs = [.int i, .int lo, .int hi] ∧ lo ≤ i ∧ i ≤ hi ∧ Q (.bl true) H
theorem ok_is_whole_from (T : Txt K mg A) : FnOk P w K mg base CX0 2 A.f_is_whole_from A.d_is_whole_from ["thing", "low", "high"] (sp_is_whole_from K A) := by
  refine T.F_is_whole_from.ok sc_is_whole_from (fun vs H Q E h => ?_) (fun cdv Ar outer s H vs Q E hr h => ?_)
  · obtain ⟨i, lo, hi, rfl, hlo, hhi, k⟩ := h
    rfl
  · obtain ⟨i, lo, hi, rfl, hlo, hhi, k⟩ := h
    have hu := hu_of hr
    have t_i_Form := T.i_Form
    have t_kt_Form_Form := T.kt_Form_Form
    have t_kt_int_Form := T.kt_int_Form
    have t_nf_Form_Form := T.nf_Form_Form
    have t_nf_int_Form := T.nf_int_Form
    have t_k_Form := T.k_Form
    refine ⟨_, (pss_one (ps_ret (pe_and (pe_call (ok_is_whole T) (hr.mono (by decide)) (by rfl) T.m_is_whole T.F_is_whole.kp T.b_is_whole .nil pass0 (pa_cons (pv 0) pa_nil)) (pe_one (pe_chain op_le op_le (pv 1) (pv 0) (pv 2)))))), ?_⟩
    try dsimp only [L2.cxOf, L2.Cx.nox, L2.Cx.wish]
    with_reducible refine Rd.ret (Rd.andV (Rd.call (Rd.cons (Rd.var (by walk_at "vr") (Rd.nil ?_)))))
    refine ⟨_, rfl, ?_⟩
    with_reducible refine Rd.bl (Rd.iteT (by walk_at "bT") (Rd.chain (Rd.var (by walk_at "vr") (Rd.var (by walk_at "vr") (Rd.i0 (Rd.bl (Rd.iteT (by walk_at "bT") (Rd.var (by walk_at "vr") (Rd.i0 ?_)))))))))
    rw [decide_eq_true hhi]
    exact k
/-! is_size -/
theorem sc_is_size : FnScope ["thing"] ["thing"] (defScope s_is_size) := ⟨rfl, rfl, rfl, by decide +kernel, rfl, by decide +kernel, by decide +kernel⟩
abbrev sp_is_size (K : PySem.W.Frag) (A : Adr) : Sp := fun vs H Q _ => ∃ i : Int, vs = [.int i] ∧ 1 ≤ i ∧ i ≤ 1000000000000000000000000000000 ∧ Q (.bl true) H
theorem ok_is_size (T : Txt K mg A) : FnOk P w K mg base CX0 3 A.f_is_size A.d_is_size ["thing"] (sp_is_size K A) := by
  refine T.F_is_size.ok sc_is_size (fun vs H Q E h => ?_) (fun cdv Ar outer s H vs Q E hr h => ?_)
  · obtain ⟨i, rfl, hlo, hhi, k⟩ := h
    rfl
  · obtain ⟨i, rfl, hlo, hhi, k⟩ := h
    have hu := hu_of hr
    have t_i_Form := T.i_Form
    have t_kt_Form_Form := T.kt_Form_Form
    have t_kt_int_Form := T.kt_int_Form
    have t_nf_Form_Form := T.nf_Form_Form
    have t_nf_int_Form := T.nf_int_Form
    have t_k_Form := T.k_Form
    refine ⟨_, (pss_one (ps_ret (pe_call (ok_is_whole_from T) (hr.mono (by decide)) (by rfl) T.m_is_whole_from T.F_is_whole_from.kp T.b_is_whole_from .nil pass0 (pa_cons (pv 0) (pa_cons pe_int (pa_cons (pe_glob (v := .int (1000000000000000000000000000000)) rfl T.m_GREATEST_SIZE ⟨_, rfl⟩) pa_nil)))))), ?_⟩
    try dsimp only [L2.cxOf, L2.Cx.nox, L2.Cx.wish]
    with_reducible refine Rd.ret (Rd.call (Rd.cons (Rd.var (by walk_at "vr") (Rd.cons (Rd.c (Rd.cons (Rd.c (Rd.nil ?_))))))))
    refine ⟨_, _, _, rfl, (by walk_at "sc"), (by walk_at "sc"), ?_⟩
    exact k
/-! check_size -/
theorem sc_check_size : FnScope ["n"] ["n"] (defScope s_check_size) := ⟨rfl, rfl, rfl, by decide +kernel, rfl, by decide +kernel, by decide +kernel⟩
abbrev sp_check_size (K : PySem.W.Frag) (A : Adr) : Sp := fun vs H Q _ => ∃ i : Int, vs = [.int i] ∧ 1 ≤ i ∧ i ≤ 1000000000000000000000000000000 ∧ Q .non H
theorem ok_check_size (T : Txt K mg A) : FnOk P w K mg base CX0 4 A.f_check_size A.d_check_size ["n"] (sp_check_size K A) := by
  refine T.F_check_size.ok sc_check_size (fun vs H Q E h => ?_) (fun cdv Ar outer s H vs Q E hr h => ?_)
  · obtain ⟨i, rfl, hlo, hhi, k⟩ := h
    rfl
  · obtain ⟨i, rfl, hlo, hhi, k⟩ := h
    have hu := hu_of hr
    have t_i_Form := T.i_Form
    have t_kt_Form_Form := T.kt_Form_Form
    have t_kt_int_Form := T.kt_int_Form
    have t_nf_Form_Form := T.nf_Form_Form
    have t_nf_int_Form := T.nf_int_Form
    have t_k_Form := T.k_Form
    refine ⟨_, (pss_one (ps_if (pt_not (pt_val (pe_call (ok_is_size T) (hr.mono (by decide)) (by rfl) T.m_is_size T.F_is_size.kp T.b_is_size .nil pass0 (pa_cons (pv 0) pa_nil)))) (pss_one ps_never) pss_nil)), ?_⟩
    try dsimp only [L2.cxOf, L2.Cx.nox, L2.Cx.wish]
    with_reducible refine Rd.ifS (Rd.not (Rd.tb (Rd.call (Rd.cons (Rd.var (by walk_at "vr") (Rd.nil ?_))))))
    refine ⟨_, rfl, (by walk_at "sc"), (by walk_at "sc"), ?_⟩
    with_reducible refine Rd.bl (Rd.iteF (by walk_at "bF") (Rd.next ?_))
    exact k
/-! Form.__init__ -/
theorem sc_Formu__initu_ : FnScope ["self", "slope", "base"] ["self", "slope", "base"] (defScope s_Formu__initu_) := ⟨rfl, rfl, rfl, by decide +kernel, rfl, by decide +kernel, by decide +kernel⟩
abbrev sp_Formu__initu_ (K : PySem.W.Frag) (A : Adr) : Sp := fun vs H Q _ => ∃ (p dx : Addr) (s b : Int), vs = [.ref p, .int s, .int b] ∧ H p = some (.ins A.c_Form dx []) ∧ Q .non (upd H p (.ins A.c_Form dx (fF s b)))
theorem ok_Formu__initu_ (T : Txt K mg A) : FnOk P w K mg base CX0 2 A.f_Formu__initu_ A.d_Formu__initu_ ["self", "slope", "base"] (sp_Formu__initu_ K A) := by
  refine T.F_Formu__initu_.ok sc_Formu__initu_ (fun vs H Q E h => ?_) (fun cdv Ar outer s H vs Q E hr h => ?_)
  · obtain ⟨p, dx, s, b, rfl, hp, k⟩ := h
    rfl
  · obtain ⟨p, dx, s, b, rfl, hp, k⟩ := h
    have hu := hu_of hr
    have t_i_Form := T.i_Form
    have t_kt_Form_Form := T.kt_Form_Form
    have t_kt_int_Form := T.kt_int_Form
    have t_nf_Form_Form := T.nf_Form_Form
    have t_nf_int_Form := T.nf_int_Form
    have t_k_Form := T.k_Form
    refine ⟨_, (pss_cons (ps_if (PW.pt (pw_or (pt_not (pt_val (pe_call (ok_is_whole T) (hr.mono (by decide)) (by rfl) T.m_is_whole T.F_is_whole.kp T.b_is_whole .nil pass0 (pa_cons (pv 1) pa_nil)))) (pw_or1 (pt_not (pt_val (pe_call (ok_is_whole T) (hr.mono (by decide)) (by rfl) T.m_is_whole T.F_is_whole.kp T.b_is_whole .nil pass0 (pa_cons (pv 2) pa_nil))))))) (pss_one ps_never) pss_nil)
      (pss_cons (ps_fld (pv 0) (pv 1) rfl)
      (pss_one (ps_fld (pv 0) (pv 2) rfl)))), ?_⟩
    try dsimp only [L2.cxOf, L2.Cx.nox, L2.Cx.wish]
    with_reducible refine Rd.seq (Rd.ifS (Rd.or (Rd.not (Rd.tb (Rd.call (Rd.cons (Rd.var (by walk_at "vr") (Rd.nil ?_))))))))
    refine ⟨_, rfl, ?_⟩
    with_reducible refine Rd.bl (Rd.iteF (by walk_at "bF") (Rd.not (Rd.tb (Rd.call (Rd.cons (Rd.var (by walk_at "vr") (Rd.nil ?_)))))))
    refine ⟨_, rfl, ?_⟩
    with_reducible refine Rd.bl (Rd.iteF (by walk_at "bF") (Rd.next (Rd.seq (Rd.sfld (Rd.var (by walk_at "vr") (Rd.var (by walk_at "vr") (⟨_, _, _, _, rfl, (by walk_at "hp"), T.k_Form, T.n_Form_slope, (by walk_at "sfl"), (Rd.sfld (Rd.var (by walk_at "vr") (Rd.var (by walk_at "vr") (⟨_, _, _, _, rfl, (by walk_at "hp"), T.k_Form, T.n_Form_base, (by walk_at "sfl"), ?_⟩))))⟩)))))))
    rw [L2.upd_upd, fF_put]
    exact k
/-! form_at -/
theorem sc_form_at : FnScope ["form", "n"] ["form", "n"] (defScope s_form_at) := ⟨rfl, rfl, rfl, by decide +kernel, rfl, by decide +kernel, by decide +kernel⟩
abbrev sp_form_at (K : PySem.W.Frag) (A : Adr) : Sp := fun vs H Q _ => ∃ (p dx : Addr) (s b n : Int), vs = [.ref p, .int n] ∧ H p = some (.ins A.c_Form dx (fF s b)) ∧ (-(2 ^ 190) < s ∧ s < 2 ^ 190) ∧ (-(2 ^ 190) < n ∧ n < 2 ^ 190) ∧ Q (.int (s * n + b)) H
theorem ok_form_at (T : Txt K mg A) : FnOk P w K mg base CX0 1 A.f_form_at A.d_form_at ["form", "n"] (sp_form_at K A) := by
  refine T.F_form_at.ok sc_form_at (fun vs H Q E h => ?_) (fun cdv Ar outer s H vs Q E hr h => ?_)
  · obtain ⟨p, dx, s, b, n, rfl, hp, hs, hn, k⟩ := h
    rfl
  · obtain ⟨p, dx, s, b, n, rfl, hp, hs, hn, k⟩ := h
    have hu := hu_of hr
    have t_i_Form := T.i_Form
    have t_kt_Form_Form := T.kt_Form_Form
    have t_kt_int_Form := T.kt_int_Form
    have t_nf_Form_Form := T.nf_Form_Form
    have t_nf_int_Form := T.nf_int_Form
    have t_k_Form := T.k_Form
    refine ⟨_, (pss_one (ps_ret (pe_op op_add (pe_op op_mulW (pe_fld (pv 0) rfl) (pv 1)) (pe_fld (pv 0) rfl)))), ?_⟩
    try dsimp only [L2.cxOf, L2.Cx.nox, L2.Cx.wish]
    with_reducible refine Rd.ret (Rd.op (Rd.op (Rd.fld (Rd.var (by walk_at "vr") (⟨_, _, _, _, _, rfl, (by walk_at "hp"), T.k_Form, T.n_Form_slope, (by walk_at "lk"), (Rd.var (by walk_at "vr") (Rd.iC (by walk_at "scm") (Rd.fld (Rd.var (by walk_at "vr") (⟨_, _, _, _, _, rfl, (by walk_at "hp"), T.k_Form, T.n_Form_base, (by walk_at "lk"), (Rd.i0 ?_)⟩)))))⟩)))))
    exact k
/-! Form.__call__ -/
theorem sc_Formu__callu_ : FnScope ["self", "n"] ["self", "n"] (defScope s_Formu__callu_) := ⟨rfl, rfl, rfl, by decide +kernel, rfl, by decide +kernel, by decide +kernel⟩
abbrev sp_Formu__callu_ (K : PySem.W.Frag) (A : Adr) : Sp := fun vs H Q _ => ∃ (p dx : Addr) (s b n : Int), vs = [.ref p, .int n] ∧ H p = some (.ins A.c_Form dx (fF s b)) ∧ 1 ≤ n ∧ n ≤ 1000000000000000000000000000000 ∧ (-(2 ^ 190) < s ∧ s < 2 ^ 190) ∧ Q (.int (s * n + b)) H
theorem ok_Formu__callu_ (T : Txt K mg A) : FnOk P w K mg base CX0 5 A.f_Formu__callu_ A.d_Formu__callu_ ["self", "n"] (sp_Formu__callu_ K A) := by
  refine T.F_Formu__callu_.ok sc_Formu__callu_ (fun vs H Q E h => ?_) (fun cdv Ar outer s H vs Q E hr h => ?_)
  · obtain ⟨p, dx, s, b, n, rfl, hp, hn1, hn2, hs, k⟩ := h
    rfl
  · obtain ⟨p, dx, s, b, n, rfl, hp, hn1, hn2, hs, k⟩ := h
    have hu := hu_of hr
    have t_i_Form := T.i_Form
    have t_kt_Form_Form := T.kt_Form_Form
    have t_kt_int_Form := T.kt_int_Form
    have t_nf_Form_Form := T.nf_Form_Form
    have t_nf_int_Form := T.nf_int_Form
    have t_k_Form := T.k_Form
    refine ⟨_, (pss_cons (ps_expr (pe_call (ok_check_size T) (hr.mono (by decide)) (by rfl) T.m_check_size T.F_check_size.kp T.b_check_size .nil pass0 (pa_cons (pv 1) pa_nil)))
      (pss_one (ps_ret (pe_call (ok_form_at T) (hr.mono (by decide)) (by rfl) T.m_form_at T.F_form_at.kp T.b_form_at .nil pass0 (pa_cons (pv 0) (pa_cons (pv 1) pa_nil)))))), ?_⟩
    try dsimp only [L2.cxOf, L2.Cx.nox, L2.Cx.wish]
    with_reducible refine Rd.seq (Rd.drop (Rd.call (Rd.cons (Rd.var (by walk_at "vr") (Rd.nil ?_)))))
    refine ⟨_, rfl, (by walk_at "sc"), (by walk_at "sc"), ?_⟩
    with_reducible refine Rd.ret (Rd.call (Rd.cons (Rd.var (by walk_at "vr") (Rd.cons (Rd.var (by walk_at "vr") (Rd.nil ?_))))))
    refine ⟨_, _, _, _, _, rfl, (by walk_at "hp"), (by walk_at "sc"), (by walk_at "sc"), ?_⟩
    exact k
/-! Form.__eq__ -/
theorem sc_Formu__equ_ : FnScope ["self", "other"] ["self", "other"] (defScope s_Formu__equ_) := ⟨rfl, rfl, rfl, by decide +kernel, rfl, by decide +kernel, by decide +kernel⟩
abbrev sp_Formu__equ_ (K : PySem.W.Frag) (A : Adr) : Sp := fun vs H Q _ => ∃ (p dx : Addr) (s b : Int) (y : V), vs = [.ref p, y] ∧ H p = some (.ins A.c_Form dx (fF s b)) ∧ ((∃ (q dq : Addr) (c d : Int), y = .ref q ∧ H q = some (.ins A.c_Form dq (fF c d)) ∧ Q (.bl (decide (V.int s = .int c) && decide (V.int b = .int d))) H) ∨ (∃ i : Int, y = .int i ∧ Q (.bl false) H))
theorem ok_Formu__equ_ (T : Txt K mg A) : FnOk P w K mg base CX0 1 A.f_Formu__equ_ A.d_Formu__equ_ ["self", "other"] (sp_Formu__equ_ K A) := by
  refine T.F_Formu__equ_.ok sc_Formu__equ_ (fun vs H Q E h => ?_) (fun cdv Ar outer s H vs Q E hr h => ?_)
  · obtain ⟨p, dx, s, b, y, rfl, hp, hy⟩ := h
    rfl
  · obtain ⟨p, dx, s, b, y, rfl, hp, hy⟩ := h
    have hu := hu_of hr
    have t_i_Form := T.i_Form
    have t_kt_Form_Form := T.kt_Form_Form
    have t_kt_int_Form := T.kt_int_Form
    have t_nf_Form_Form := T.nf_Form_Form
    have t_nf_int_Form := T.nf_int_Form
    have t_k_Form := T.k_Form
    rcases hy with ⟨q, dq, c, d, rfl, hq, k⟩ | ⟨i, rfl, k⟩
    · skip
      refine ⟨_, (pss_one (ps_ret (pe_and (pe_callB (Rd.isi (K := K) rfl) (by rfl) T.n_isinstance (by decide +kernel) (pa_cons (pv 1) (pa_cons (pe_glob (v := .ref A.c_Form) rfl T.m_Form rfl) pa_nil))) (pe_and (pe_cmpR op_eq (pe_fld (pv 0) rfl) (pe_fld (pv 1) rfl) (nomark _)) (pe_one (pe_cmpR op_eq (pe_fld (pv 0) rfl) (pe_fld (pv 1) rfl) (nomark _))))))), ?_⟩
      try dsimp only [L2.cxOf, L2.Cx.nox, L2.Cx.wish]
      with_reducible refine Rd.ret (Rd.andV (Rd.cB (Rd.cons (Rd.var (by walk_at "vr") (Rd.cons (Rd.c (Rd.nil ?_)))))))
      refine ⟨_, _, _, _, _, rfl, (by walk_at "clsv"), (by walk_at "tyx"), (by walk_at "kit"), ?_⟩
      with_reducible refine Rd.bl (Rd.iteT (by walk_at "bT") (Rd.andV (Rd.op (Rd.fld (Rd.var (by walk_at "vr") (⟨_, _, _, _, _, rfl, (by walk_at "hp"), T.k_Form, T.n_Form_slope, (by walk_at "lk"), (Rd.fld (Rd.var (by walk_at "vr") (⟨_, _, _, _, _, rfl, (by walk_at "hp"), T.k_Form, T.n_Form_slope, (by walk_at "lk"), (Rd.eqS (by walk_at "vr") (Rd.bl ?_))⟩)))⟩))))))
      refine' Rd.andB (d := _) (fun Q1 hq1 => ?pa1) ?pb1
      case pa1 =>
        with_reducible refine Rd.op (Rd.fld (Rd.var (by walk_at "vr") (⟨_, _, _, _, _, rfl, (by walk_at "hp"), T.k_Form, T.n_Form_base, (by walk_at "lk"), (Rd.fld (Rd.var (by walk_at "vr") (⟨_, _, _, _, _, rfl, (by walk_at "hp"), T.k_Form, T.n_Form_base, (by walk_at "lk"), (Rd.eqS (by walk_at "vr") ?_)⟩)))⟩)))
        exact hq1
      rotate_left 0
      exact k
    · skip
      refine ⟨_, (pss_one (ps_ret (pe_and (pe_callB (Rd.isi (K := K) rfl) (by rfl) T.n_isinstance (by decide +kernel) (pa_cons (pv 1) (pa_cons (pe_glob (v := .ref A.c_Form) rfl T.m_Form rfl) pa_nil))) (pe_and (pe_cmpR op_eq (pe_fld (pv 0) rfl) (pe_fld (pv 1) rfl) (nomark _)) (pe_one (pe_cmpR op_eq (pe_fld (pv 0) rfl) (pe_fld (pv 1) rfl) (nomark _))))))), ?_⟩
      try dsimp only [L2.cxOf, L2.Cx.nox, L2.Cx.wish]
      with_reducible refine Rd.ret (Rd.andV (Rd.cB (Rd.cons (Rd.var (by walk_at "vr") (Rd.cons (Rd.c (Rd.nil ?_)))))))
      refine ⟨_, _, _, _, _, rfl, (by walk_at "clsv"), (by walk_at "tyx"), (by walk_at "kit"), ?_⟩
      with_reducible refine Rd.bl (Rd.iteF (by walk_at "bF") ?_)
      exact k
/-! place_of -/
theorem sc_place_of : FnScope ["thing"] ["thing"] (defScope s_place_of) := ⟨rfl, rfl, rfl, by decide +kernel, rfl, by decide +kernel, by decide +kernel⟩
abbrev sp_place_of (K : PySem.W.Frag) (A : Adr) : Sp := fun vs H Q _ => ∃ (p dx : Addr) (s b : Int), vs = [.ref p] ∧ H p = some (.ins A.c_Form dx (fF s b)) ∧ ∀ q, H q = none → Q (.ref q) (upd H q (.tup [.int s, .int b]))
theorem ok_place_of (T : Txt K mg A) : FnOk P w K mg base CX0 1 A.f_place_of A.d_place_of ["thing"] (sp_place_of K A) := by
  refine T.F_place_of.ok sc_place_of (fun vs H Q E h => ?_) (fun cdv Ar outer s H vs Q E hr h => ?_)
  · obtain ⟨p, dx, s, b, rfl, hp, k⟩ := h
    rfl
  · obtain ⟨p, dx, s, b, rfl, hp, k⟩ := h
    have hu := hu_of hr
    have t_i_Form := T.i_Form
    have t_kt_Form_Form := T.kt_Form_Form
    have t_kt_int_Form := T.kt_int_Form
    have t_nf_Form_Form := T.nf_Form_Form
    have t_nf_int_Form := T.nf_int_Form
    have t_k_Form := T.k_Form
    refine ⟨_, (pss_cons (ps_if (pt_not (pt_val (pe_callB (Rd.isi (K := K) rfl) (by rfl) T.n_isinstance (by decide +kernel) (pa_cons (pv 0) (pa_cons (pe_glob (v := .ref A.c_Form) rfl T.m_Form rfl) pa_nil))))) (pss_one ps_never) pss_nil)
      (pss_one (ps_ret (pe_tup (pa_cons (pe_fld (pv 0) rfl) (pa_cons (pe_fld (pv 0) rfl) pa_nil)))))), ?_⟩
    try dsimp only [L2.cxOf, L2.Cx.nox, L2.Cx.wish]
    with_reducible refine Rd.seq (Rd.ifS (Rd.not (Rd.tb (Rd.cB (Rd.cons (Rd.var (by walk_at "vr") (Rd.cons (Rd.c (Rd.nil ?_)))))))))
    refine ⟨_, _, _, _, _, rfl, (by walk_at "clsv"), (by walk_at "tyx"), (by walk_at "kit"), ?_⟩
    with_reducible refine Rd.bl (Rd.iteF (by walk_at "bF") (Rd.next (Rd.ret (Rd.tup (Rd.cons (Rd.fld (Rd.var (by walk_at "vr") (⟨_, _, _, _, _, rfl, (by walk_at "hp"), T.k_Form, T.n_Form_slope, (by walk_at "lk"), (Rd.cons (Rd.fld (Rd.var (by walk_at "vr") ?_)))⟩))))))))
    with_reducible refine ⟨_, _, _, _, _, rfl, (by walk_at "hp"), T.k_Form, T.n_Form_base, (by walk_at "lk"), (Rd.nil (Rd.laid (by walk_at "ll") ?_))⟩
    intro p0 np0
    exact k _ np0
/-! Form.__lt__ -/
theorem sc_Formu__ltu_ : FnScope ["self", "other"] ["self", "other"] (defScope s_Formu__ltu_) := ⟨rfl, rfl, rfl, by decide +kernel, rfl, by decide +kernel, by decide +kernel⟩
abbrev sp_Formu__ltu_ (K : PySem.W.Frag) (A : Adr) : Sp := fun vs H Q _ => ∃ (p dx q dq : Addr) (s b c d : Int), vs = [.ref p, .ref q] ∧ H p = some (.ins A.c_Form dx (fF s b)) ∧ H q = some (.ins A.c_Form dq (fF c d)) ∧ ∀ H', Same H H' → Q (.bl (decide (s < c ∨ s = c ∧ b < d))) H'
theorem ok_Formu__ltu_ (T : Txt K mg A) : FnOk P w K mg base CX0 2 A.f_Formu__ltu_ A.d_Formu__ltu_ ["self", "other"] (sp_Formu__ltu_ K A) := by
  refine T.F_Formu__ltu_.ok sc_Formu__ltu_ (fun vs H Q E h => ?_) (fun cdv Ar outer s H vs Q E hr h => ?_)
  · obtain ⟨p, dx, q, dq, s, b, c, d, rfl, hp, hq, k⟩ := h
    rfl
  · obtain ⟨p, dx, q, dq, s, b, c, d, rfl, hp, hq, k⟩ := h
    have hu := hu_of hr
    have t_i_Form := T.i_Form
    have t_kt_Form_Form := T.kt_Form_Form
    have t_kt_int_Form := T.kt_int_Form
    have t_nf_Form_Form := T.nf_Form_Form
    have t_nf_int_Form := T.nf_int_Form
    have t_k_Form := T.k_Form
    refine ⟨_, (pss_one (ps_ret (pe_cmpR (Rd.opPrLt hr.units0) (pe_call (ok_place_of T) (hr.mono (by decide)) (by rfl) T.m_place_of T.F_place_of.kp T.b_place_of .nil pass0 (pa_cons (pv 0) pa_nil)) (pe_call (ok_place_of T) (hr.mono (by decide)) (by rfl) T.m_place_of T.F_place_of.kp T.b_place_of .nil pass0 (pa_cons (pv 1) pa_nil)) (nomark _)))), ?_⟩
    try dsimp only [L2.cxOf, L2.Cx.nox, L2.Cx.wish]
    with_reducible refine Rd.ret (Rd.op (Rd.call (Rd.cons (Rd.var (by walk_at "vr") (Rd.nil ?_)))))
    refine ⟨_, _, _, _, rfl, (by walk_at "hp"), fun q1 nq1 => ?_⟩
    with_reducible refine Rd.call (Rd.cons (Rd.var (by walk_at "vr") (Rd.nil ?_)))
    refine ⟨_, _, _, _, rfl, (by walk_at "hp"), fun q2 nq2 => ?_⟩
    with_reducible refine Rd.prLt (by walk_at "hpt") (by walk_at "hpt") ?_
    exact k _ (by walk_at "frm")
/-! Form.__le__ -/
theorem sc_Formu__leu_ : FnScope ["self", "other"] ["self", "other"] (defScope s_Formu__leu_) := ⟨rfl, rfl, rfl, by decide +kernel, rfl, by decide +kernel, by decide +kernel⟩
abbrev sp_Formu__leu_ (K : PySem.W.Frag) (A : Adr) : Sp := fun vs H Q _ => ∃ (p dx q dq : Addr) (s b c d : Int), vs = [.ref p, .ref q] ∧ H p = some (.ins A.c_Form dx (fF s b)) ∧ H q = some (.ins A.c_Form dq (fF c d)) ∧ ∀ H', Same H H' → Q (.bl (decide (s < c ∨ s = c ∧ b ≤ d))) H'
theorem ok_Formu__leu_ (T : Txt K mg A) : FnOk P w K mg base CX0 2 A.f_Formu__leu_ A.d_Formu__leu_ ["self", "other"] (sp_Formu__leu_ K A) := by
  refine T.F_Formu__leu_.ok sc_Formu__leu_ (fun vs H Q E h => ?_) (fun cdv Ar outer s H vs Q E hr h => ?_)
  · obtain ⟨p, dx, q, dq, s, b, c, d, rfl, hp, hq, k⟩ := h
    rfl
  · obtain ⟨p, dx, q, dq, s, b, c, d, rfl, hp, hq, k⟩ := h
    have hu := hu_of hr
    have t_i_Form := T.i_Form
    have t_kt_Form_Form := T.kt_Form_Form
    have t_kt_int_Form := T.kt_int_Form
    have t_nf_Form_Form := T.nf_Form_Form
    have t_nf_int_Form := T.nf_int_Form
    have t_k_Form := T.k_Form
    refine ⟨_, (pss_one (ps_ret (pe_cmpR (Rd.opPrLe hr.units0) (pe_call (ok_place_of T) (hr.mono (by decide)) (by rfl) T.m_place_of T.F_place_of.kp T.b_place_of .nil pass0 (pa_cons (pv 0) pa_nil)) (pe_call (ok_place_of T) (hr.mono (by decide)) (by rfl) T.m_place_of T.F_place_of.kp T.b_place_of .nil pass0 (pa_cons (pv 1) pa_nil)) (nomark _)))), ?_⟩
    try dsimp only [L2.cxOf, L2.Cx.nox, L2.Cx.wish]
    with_reducible refine Rd.ret (Rd.op (Rd.call (Rd.cons (Rd.var (by walk_at "vr") (Rd.nil ?_)))))
    refine ⟨_, _, _, _, rfl, (by walk_at "hp"), fun q1 nq1 => ?_⟩
    with_reducible refine Rd.call (Rd.cons (Rd.var (by walk_at "vr") (Rd.nil ?_)))
    refine ⟨_, _, _, _, rfl, (by walk_at "hp"), fun q2 nq2 => ?_⟩
    with_reducible refine Rd.prLe (by walk_at "hpt") (by walk_at "hpt") ?_
    exact k _ (by walk_at "frm")
/-! Form.__gt__ -/
theorem sc_Formu__gtu_ : FnScope ["self", "other"] ["self", "other"] (defScope s_Formu__gtu_) := ⟨rfl, rfl, rfl, by decide +kernel, rfl, by decide +kernel, by decide +kernel⟩
abbrev sp_Formu__gtu_ (K : PySem.W.Frag) (A : Adr) : Sp := fun vs H Q _ => ∃ (p dx q dq : Addr) (s b c d : Int), vs = [.ref p, .ref q] ∧ H p = some (.ins A.c_Form dx (fF s b)) ∧ H q = some (.ins A.c_Form dq (fF c d)) ∧ ∀ H', Same H H' → Q (.bl (decide (c < s ∨ s = c ∧ d < b))) H'
theorem ok_Formu__gtu_ (T : Txt K mg A) : FnOk P w K mg base CX0 2 A.f_Formu__gtu_ A.d_Formu__gtu_ ["self", "other"] (sp_Formu__gtu_ K A) := by
  refine T.F_Formu__gtu_.ok sc_Formu__gtu_ (fun vs H Q E h => ?_) (fun cdv Ar outer s H vs Q E hr h => ?_)
  · obtain ⟨p, dx, q, dq, s, b, c, d, rfl, hp, hq, k⟩ := h
    rfl
  · obtain ⟨p, dx, q, dq, s, b, c, d, rfl, hp, hq, k⟩ := h
    have hu := hu_of hr
    have t_i_Form := T.i_Form
    have t_kt_Form_Form := T.kt_Form_Form
    have t_kt_int_Form := T.kt_int_Form
    have t_nf_Form_Form := T.nf_Form_Form
    have t_nf_int_Form := T.nf_int_Form
    have t_k_Form := T.k_Form
    refine ⟨_, (pss_one (ps_ret (pe_cmpR (Rd.opPrGt hr.units0) (pe_call (ok_place_of T) (hr.mono (by decide)) (by rfl) T.m_place_of T.F_place_of.kp T.b_place_of .nil pass0 (pa_cons (pv 0) pa_nil)) (pe_call (ok_place_of T) (hr.mono (by decide)) (by rfl) T.m_place_of T.F_place_of.kp T.b_place_of .nil pass0 (pa_cons (pv 1) pa_nil)) (nomark _)))), ?_⟩
    try dsimp only [L2.cxOf, L2.Cx.nox, L2.Cx.wish]
    with_reducible refine Rd.ret (Rd.op (Rd.call (Rd.cons (Rd.var (by walk_at "vr") (Rd.nil ?_)))))
    refine ⟨_, _, _, _, rfl, (by walk_at "hp"), fun q1 nq1 => ?_⟩
    with_reducible refine Rd.call (Rd.cons (Rd.var (by walk_at "vr") (Rd.nil ?_)))
    refine ⟨_, _, _, _, rfl, (by walk_at "hp"), fun q2 nq2 => ?_⟩
    with_reducible refine Rd.prGt (by walk_at "hpt") (by walk_at "hpt") ?_
    exact k _ (by walk_at "frm")
/-! Form.__ge__ -/
theorem sc_Formu__geu_ : FnScope ["self", "other"] ["self", "other"] (defScope s_Formu__geu_) := ⟨rfl, rfl, rfl, by decide +kernel, rfl, by decide +kernel, by decide +kernel⟩
abbrev sp_Formu__geu_ (K : PySem.W.Frag) (A : Adr) : Sp := fun vs H Q _ => ∃ (p dx q dq : Addr) (s b c d : Int), vs = [.ref p, .ref q] ∧ H p = some (.ins A.c_Form dx (fF s b)) ∧ H q = some (.ins A.c_Form dq (fF c d)) ∧ ∀ H', Same H H' → Q (.bl (decide (c < s ∨ s = c ∧ d ≤ b))) H'
theorem ok_Formu__geu_ (T : Txt K mg A) : FnOk P w K mg base CX0 2 A.f_Formu__geu_ A.d_Formu__geu_ ["self", "other"] (sp_Formu__geu_ K A) := by
  refine T.F_Formu__geu_.ok sc_Formu__geu_ (fun vs H Q E h => ?_) (fun cdv Ar outer s H vs Q E hr h => ?_)
  · obtain ⟨p, dx, q, dq, s, b, c, d, rfl, hp, hq, k⟩ := h
    rfl
  · obtain ⟨p, dx, q, dq, s, b, c, d, rfl, hp, hq, k⟩ := h
    have hu := hu_of hr
    have t_i_Form := T.i_Form
    have t_kt_Form_Form := T.kt_Form_Form
    have t_kt_int_Form := T.kt_int_Form
    have t_nf_Form_Form := T.nf_Form_Form
    have t_nf_int_Form := T.nf_int_Form
    have t_k_Form := T.k_Form
    refine ⟨_, (pss_one (ps_ret (pe_cmpR (Rd.opPrGe hr.units0) (pe_call (ok_place_of T) (hr.mono (by decide)) (by rfl) T.m_place_of T.F_place_of.kp T.b_place_of .nil pass0 (pa_cons (pv 0) pa_nil)) (pe_call (ok_place_of T) (hr.mono (by decide)) (by rfl) T.m_place_of T.F_place_of.kp T.b_place_of .nil pass0 (pa_cons (pv 1) pa_nil)) (nomark _)))), ?_⟩
    try dsimp only [L2.cxOf, L2.Cx.nox, L2.Cx.wish]
    with_reducible refine Rd.ret (Rd.op (Rd.call (Rd.cons (Rd.var (by walk_at "vr") (Rd.nil ?_)))))
    refine ⟨_, _, _, _, rfl, (by walk_at "hp"), fun q1 nq1 => ?_⟩
    with_reducible refine Rd.call (Rd.cons (Rd.var (by walk_at "vr") (Rd.nil ?_)))
    refine ⟨_, _, _, _, rfl, (by walk_at "hp"), fun q2 nq2 => ?_⟩
    with_reducible refine Rd.prGe (by walk_at "hpt") (by walk_at "hpt") ?_
    exact k _ (by walk_at "frm")
/-! _law_source -/
theorem sc_l_source : FnScope ["_law_script", "_law_turn", "_law_cell", "_law_number", "_law_seed"] ["_law_script", "_law_turn"] (defScope s_l_source) := ⟨rfl, rfl, rfl, by decide +kernel, rfl, by decide +kernel, by decide +kernel⟩
abbrev sp_l_source (K : PySem.W.Frag) (A : Adr) : Sp := spSource K
theorem ok_l_source (T : Txt K mg A) : FnOk P w K mg base CX0 1 A.f_l_source A.d_l_source ["_law_script", "_law_turn"] (sp_l_source K A) := by
  refine T.F_l_source.ok sc_l_source (fun vs H Q E h => ?_) (fun cdv Ar outer s H vs Q E hr h => ?_)
  · obtain ⟨a, ns, t, rfl, ha, ht, ht2, k⟩ := h
    rfl
  · obtain ⟨a, ns, t, rfl, ha, ht, ht2, k⟩ := h
    have hu := hu_of hr
    have t_i_Form := T.i_Form
    have t_kt_Form_Form := T.kt_Form_Form
    have t_kt_int_Form := T.kt_int_Form
    have t_nf_Form_Form := T.nf_Form_Form
    have t_nf_int_Form := T.nf_int_Form
    have t_k_Form := T.k_Form
    refine ⟨_, (pss_cons (ps_set (i := 2) sc_l_source.nd rfl (Or.inl rfl) pe_int)
      (pss_cons (ps_if (pt_cmpR op_lt (pv 1) (pe_callB call_len_seq (by rfl) T.n_len PySem.boot_len (pa_cons (pv 0) pa_nil)) (nomark _)) (pss_one (ps_set (i := 2) sc_l_source.nd rfl (Or.inl rfl) (pe_ix ix_list (pv 0) (pv 1) (fun _ _ => rfl)))) pss_nil)
      (pss_cons (ps_set (i := 3) sc_l_source.nd rfl (Or.inl rfl) (pe_callB call_abs (by rfl) T.n_abs (by decide +kernel) (pa_cons (pv 2) pa_nil)))
      (pss_cons (ps_set (i := 4) sc_l_source.nd rfl (Or.inl rfl) (pe_op op_mod (pe_callTy call_int1 (by rfl) T.n_int (by decide +kernel) (pa_cons (pe_op op_add (pe_op op_add (pe_op op_mulW (pe_op op_mod (pe_callTy call_int1 (by rfl) T.n_int (by decide +kernel) (pa_cons (pv 3) pa_nil)) pe_int) pe_int) (pe_op op_mulW pe_int (pv 1))) pe_int) pa_nil)) pe_int))
      (pss_cons (ps_if (pt_cmpR op_lt (pv 3) (pe_op op_pow pe_int pe_int) (nomark _)) (pss_one (ps_set (i := 3) sc_l_source.nd rfl (Or.inl rfl) pe_int)) pss_nil)
      (pss_one (ps_ret (pe_lst (pa_cons (pv 3) (pa_cons (pv 4) pa_nil)))))))))), ?_⟩
    try dsimp only [L2.cxOf, L2.Cx.nox, L2.Cx.wish]
    with_reducible refine Rd.seq (Rd.asg (Rd.c (Rd.name (Rd.seq (Rd.ifS (Rd.test (Rd.op (Rd.var (by walk_at "vr") (Rd.cB (Rd.cons (Rd.var (by walk_at "vr") ?_)))))))))))
    with_reducible refine Rd.nil (⟨_, _, rfl, (by walk_at "hpq"), (Rd.i0 (Rd.bl ?_))⟩)
    refine Rd.ite (fun h0 => ?_) (fun h0 => ?_)
    · try simp only [decide_eq_true_eq, Bool.not_eq_true', decide_eq_false_iff_not, Bool.not_eq_true, Bool.not_eq_eq_eq_not, Bool.not_true, Bool.not_false] at h0
      with_reducible refine Rd.asg (Rd.op (Rd.var (by walk_at "vr") (Rd.var (by walk_at "vr") ?_)))
      obtain ⟨z, hz⟩ := atI_map ht (by simpa using h0)
      refine Rd.ixL (by walk_at "hpl") hz ?_
      with_reducible refine Rd.name (Rd.seq (Rd.asg (Rd.cB (Rd.cons (Rd.var (by walk_at "vr") (Rd.nil (⟨_, rfl, (Rd.name (Rd.seq (Rd.asg (Rd.op ?_))))⟩)))))))
      with_reducible refine Rd.cB (Rd.cons (Rd.op (Rd.op (Rd.op (Rd.op (Rd.cB (Rd.cons (Rd.var (by walk_at "vr") (Rd.nil ((.inl ⟨_, rfl, (Rd.c ?_)⟩)))))))))))
      with_reducible refine Rd.iC (by walk_at "sc") (Rd.c (Rd.iC (by walk_at "scm") (Rd.op (Rd.c (Rd.var (by walk_at "vr") (Rd.iC (by walk_at "scm") (Rd.i0 (Rd.c (Rd.i0 (Rd.nil ((.inl ⟨_, rfl, ?_⟩))))))))))))
      with_reducible refine Rd.c (Rd.iC (by walk_at "sc") (Rd.name (Rd.seq (Rd.ifS (Rd.test (Rd.op (Rd.var (by walk_at "vr") (Rd.op (Rd.c (Rd.c (Rd.iC (by walk_at "scp") ?_)))))))))))
      with_reducible refine Rd.i0 (Rd.bl ?_)
      refine Rd.ite (fun h1 => ?_) (fun h1 => ?_)
      · try simp only [decide_eq_true_eq, Bool.not_eq_true', decide_eq_false_iff_not, Bool.not_eq_true, Bool.not_eq_eq_eq_not, Bool.not_true, Bool.not_false] at h1
        with_reducible refine Rd.asg (Rd.c (Rd.name (Rd.ret (Rd.lst (Rd.cons (Rd.var (by walk_at "vr") (Rd.cons (Rd.var (by walk_at "vr") (Rd.nil (Rd.laid (by walk_at "ll") ?_))))))))))
        intro p0 np0
        exact k _ _ np0 ⟨_, _, rfl, (by walk_at "sc"), (by walk_at "sc"), (by walk_at "sc")⟩
      · try simp only [decide_eq_true_eq, Bool.not_eq_true', decide_eq_false_iff_not, Bool.not_eq_true, Bool.not_eq_eq_eq_not, Bool.not_true, Bool.not_false, Int.not_lt, Int.not_le, Decidable.not_not] at h1
        with_reducible refine Rd.next (Rd.ret (Rd.lst (Rd.cons (Rd.var (by walk_at "vr") (Rd.cons (Rd.var (by walk_at "vr") (Rd.nil (Rd.laid (by walk_at "ll") ?_))))))))
        intro p0 np0
        exact k _ _ np0 ⟨_, _, rfl, (by walk_at "sc"), (by walk_at "sc"), (by walk_at "sc")⟩
    · try simp only [decide_eq_true_eq, Bool.not_eq_true', decide_eq_false_iff_not, Bool.not_eq_true, Bool.not_eq_eq_eq_not, Bool.not_true, Bool.not_false, Int.not_lt, Int.not_le, Decidable.not_not] at h0
      with_reducible refine Rd.next (Rd.seq (Rd.asg (Rd.cB (Rd.cons (Rd.var (by walk_at "vr") (Rd.nil (⟨_, rfl, (Rd.name (Rd.seq (Rd.asg (Rd.op ?_))))⟩)))))))
      with_reducible refine Rd.cB (Rd.cons (Rd.op (Rd.op (Rd.op (Rd.op (Rd.cB (Rd.cons (Rd.var (by walk_at "vr") (Rd.nil ((.inl ⟨_, rfl, (Rd.c ?_)⟩)))))))))))
      with_reducible refine Rd.iC (by walk_at "sc") (Rd.c (Rd.iC (by walk_at "scm") (Rd.op (Rd.c (Rd.var (by walk_at "vr") (Rd.iC (by walk_at "scm") (Rd.i0 (Rd.c (Rd.i0 (Rd.nil ((.inl ⟨_, rfl, ?_⟩))))))))))))
      with_reducible refine Rd.c (Rd.iC (by walk_at "sc") (Rd.name (Rd.seq (Rd.ifS (Rd.test (Rd.op (Rd.var (by walk_at "vr") (Rd.op (Rd.c (Rd.c (Rd.iC (by walk_at "scp") ?_)))))))))))
      with_reducible refine Rd.i0 (Rd.bl ?_)
      refine Rd.ite (fun h1 => ?_) (fun h1 => ?_)
      · try simp only [decide_eq_true_eq, Bool.not_eq_true', decide_eq_false_iff_not, Bool.not_eq_true, Bool.not_eq_eq_eq_not, Bool.not_true, Bool.not_false] at h1
        with_reducible refine Rd.asg (Rd.c (Rd.name (Rd.ret (Rd.lst (Rd.cons (Rd.var (by walk_at "vr") (Rd.cons (Rd.var (by walk_at "vr") (Rd.nil (Rd.laid (by walk_at "ll") ?_))))))))))
        intro p0 np0
        exact k _ _ np0 ⟨_, _, rfl, (by walk_at "sc"), (by walk_at "sc"), (by walk_at "sc")⟩
      · try simp only [decide_eq_true_eq, Bool.not_eq_true', decide_eq_false_iff_not, Bool.not_eq_true, Bool.not_eq_eq_eq_not, Bool.not_true, Bool.not_false, Int.not_lt, Int.not_le, Decidable.not_not] at h1
        with_reducible refine Rd.next (Rd.ret (Rd.lst (Rd.cons (Rd.var (by walk_at "vr") (Rd.cons (Rd.var (by walk_at "vr") (Rd.nil (Rd.laid (by walk_at "ll") ?_))))))))
        intro p0 np0
        exact k _ _ np0 ⟨_, _, rfl, (by walk_at "sc"), (by walk_at "sc"), (by walk_at "sc")⟩
/-! _law_draw -/
theorem sc_l_draw : FnScope ["_law_source_here", "_law_amount", "_law_digit", "_law_found"] ["_law_source_here", "_law_amount"] (defScope s_l_draw) := ⟨rfl, rfl, rfl, by decide +kernel, rfl, by decide +kernel, by decide +kernel⟩
abbrev sp_l_draw (K : PySem.W.Frag) (A : Adr) : Sp := spDraw
theorem ok_l_draw (T : Txt K mg A) : FnOk P w K mg base CX0 1 A.f_l_draw A.d_l_draw ["_law_source_here", "_law_amount"] (sp_l_draw K A) := by
  refine T.F_l_draw.ok sc_l_draw (fun vs H Q E h => ?_) (fun cdv Ar outer s H vs Q E hr h => ?_)
  · obtain ⟨a, o, m, rfl, ha, ho, hm, hm2, k⟩ := h
    rfl
  · obtain ⟨a, o, m, rfl, ha, ho, hm, hm2, k⟩ := h
    have hu := hu_of hr
    have t_i_Form := T.i_Form
    have t_kt_Form_Form := T.kt_Form_Form
    have t_kt_int_Form := T.kt_int_Form
    have t_nf_Form_Form := T.nf_Form_Form
    have t_nf_int_Form := T.nf_int_Form
    have t_k_Form := T.k_Form
    obtain ⟨x, y, rfl, hx, hy, hy2⟩ := ho
    have e1 := Int.emod_nonneg x (show m ≠ 0 by first | omega | decide)
    have e2 := Int.emod_lt_of_pos x hm
    have e3 := Int.ediv_nonneg hx (show 0 ≤ m by first | omega | decide)
    refine ⟨_, (pss_cons (ps_if (pt_cmpR op_gt (pe_ix ix_list (pv 0) pe_int (fun _ _ => rfl)) pe_int (nomark _)) (pss_cons (ps_set (i := 2) sc_l_draw.nd rfl (Or.inl rfl) (pe_op op_mod (pe_callTy call_int1 (by rfl) T.n_int (by decide +kernel) (pa_cons (pe_ix ix_list (pv 0) pe_int (fun _ _ => rfl)) pa_nil)) (pv 1)))
      (pss_cons (ps_asg (pe_op op_fdivW (pe_ix ix_list (pv 0) pe_int (fun _ _ => rfl)) (pv 1)) (pg_sub (pv 0) pe_int set_list))
      (pss_one (ps_ret (pv 2))))) pss_nil)
      (pss_cons (ps_asg (pe_op op_mod (pe_callTy call_int1 (by rfl) T.n_int (by decide +kernel) (pa_cons (pe_op op_add (pe_op op_mulW (pe_ix ix_list (pv 0) pe_int (fun _ _ => rfl)) pe_int) pe_int) pa_nil)) pe_int) (pg_sub (pv 0) pe_int set_list))
      (pss_cons (ps_set (i := 3) sc_l_draw.nd rfl (Or.inl rfl) (pe_op op_fdivW (pe_op op_mod (pe_callTy call_int1 (by rfl) T.n_int (by decide +kernel) (pa_cons (pe_op op_mulW (pe_ix ix_list (pv 0) pe_int (fun _ _ => rfl)) (pe_ix ix_list (pv 0) pe_int (fun _ _ => rfl))) pa_nil)) pe_int) pe_int))
      (pss_cons (ps_if (pt_cmpR op_gt (pv 1) (pe_op op_pow pe_int pe_int) (nomark _)) (pss_cons (ps_asg (pe_op op_mod (pe_callTy call_int1 (by rfl) T.n_int (by decide +kernel) (pa_cons (pe_op op_add (pe_op op_mulW (pe_ix ix_list (pv 0) pe_int (fun _ _ => rfl)) pe_int) pe_int) pa_nil)) pe_int) (pg_sub (pv 0) pe_int set_list))
      (pss_one (ps_set (i := 3) sc_l_draw.nd rfl (Or.inl rfl) (pe_op op_add (pe_op op_mulW (pv 3) pe_int) (pe_op op_fdivW (pe_op op_mod (pe_callTy call_int1 (by rfl) T.n_int (by decide +kernel) (pa_cons (pe_op op_mulW (pe_ix ix_list (pv 0) pe_int (fun _ _ => rfl)) (pe_ix ix_list (pv 0) pe_int (fun _ _ => rfl))) pa_nil)) pe_int) pe_int))))) pss_nil)
      (pss_one (ps_ret (pe_op op_mod (pe_callTy call_int1 (by rfl) T.n_int (by decide +kernel) (pa_cons (pv 3) pa_nil)) (pv 1)))))))), ?_⟩
    try dsimp only [L2.cxOf, L2.Cx.nox, L2.Cx.wish]
    with_reducible refine Rd.seq (Rd.ifS (Rd.test (Rd.op (Rd.op (Rd.var (by walk_at "vr") (Rd.c (Rd.ixL (by walk_at "hpl") (by walk_at "vr") (Rd.c (Rd.i0 (Rd.bl ?_))))))))))
    refine Rd.ite (fun h0 => ?_) (fun h0 => ?_)
    · try simp only [decide_eq_true_eq, Bool.not_eq_true', decide_eq_false_iff_not, Bool.not_eq_true, Bool.not_eq_eq_eq_not, Bool.not_true, Bool.not_false] at h0
      with_reducible refine Rd.seq (Rd.asg (Rd.op (Rd.cB (Rd.cons (Rd.op (Rd.var (by walk_at "vr") (Rd.c (Rd.ixL (by walk_at "hpl") (by walk_at "vr") (Rd.nil ((.inl ⟨_, rfl, (Rd.var (by walk_at "vr") ?_)⟩)))))))))))
      with_reducible refine Rd.iC (by walk_at "sc") (Rd.name (Rd.seq (Rd.asg (Rd.op (Rd.op (Rd.var (by walk_at "vr") (Rd.c (Rd.ixL (by walk_at "hpl") (by walk_at "vr") (Rd.var (by walk_at "vr") (Rd.iC (by walk_at "scd") (Rd.sub ?_)))))))))))
      with_reducible refine Rd.var (by walk_at "vr") (Rd.c (Rd.setL (by walk_at "hp") (by walk_at "ixn") (Rd.ret (Rd.var (by walk_at "vr") ?_))))
      exact k _ _ (by walk_at "sc") (by walk_at "sc") ⟨_, _, rfl, (by walk_at "sc"), (by walk_at "sc"), (by walk_at "sc")⟩
    · try simp only [decide_eq_true_eq, Bool.not_eq_true', decide_eq_false_iff_not, Bool.not_eq_true, Bool.not_eq_eq_eq_not, Bool.not_true, Bool.not_false, Int.not_lt, Int.not_le, Decidable.not_not] at h0
      with_reducible refine Rd.next (Rd.seq (Rd.asg (Rd.op (Rd.cB (Rd.cons (Rd.op (Rd.op (Rd.op (Rd.var (by walk_at "vr") (Rd.c (Rd.ixL (by walk_at "hpl") (by walk_at "vr") ?_)))))))))))
      with_reducible refine Rd.c (Rd.iC (by walk_at "scm") (Rd.c (Rd.i0 (Rd.nil ((.inl ⟨_, rfl, (Rd.c (Rd.iC (by walk_at "sc") (Rd.sub (Rd.var (by walk_at "vr") (Rd.c (Rd.setL (by walk_at "hp") (by walk_at "ixn") ?_))))))⟩))))))
      with_reducible refine Rd.seq (Rd.asg (Rd.op (Rd.op (Rd.cB (Rd.cons (Rd.op (Rd.op (Rd.var (by walk_at "vr") (Rd.c (Rd.ixL (by walk_at "hpl") (by walk_at "vr") (Rd.op ?_)))))))))))
      with_reducible refine Rd.var (by walk_at "vr") (Rd.c (Rd.ixL (by walk_at "hpl") (by walk_at "vr") (Rd.iC (by walk_at "scm") (Rd.nil ((.inl ⟨_, rfl, (Rd.c (Rd.iC (by walk_at "sc") (Rd.c (Rd.iC (by walk_at "scd") (Rd.name (Rd.seq ?_))))))⟩))))))
      with_reducible refine Rd.ifS (Rd.test (Rd.op (Rd.var (by walk_at "vr") (Rd.op (Rd.c (Rd.c (Rd.iC (by walk_at "scp") (Rd.i0 (Rd.bl ?_)))))))))
      refine Rd.ite (fun h1 => ?_) (fun h1 => ?_)
      · try simp only [decide_eq_true_eq, Bool.not_eq_true', decide_eq_false_iff_not, Bool.not_eq_true, Bool.not_eq_eq_eq_not, Bool.not_true, Bool.not_false] at h1
        with_reducible refine Rd.seq (Rd.asg (Rd.op (Rd.cB (Rd.cons (Rd.op (Rd.op (Rd.op (Rd.var (by walk_at "vr") (Rd.c (Rd.ixL (by walk_at "hpl") (by walk_at "vr") (Rd.c ?_)))))))))))
        with_reducible refine Rd.iC (by walk_at "scm") (Rd.c (Rd.i0 (Rd.nil ((.inl ⟨_, rfl, (Rd.c (Rd.iC (by walk_at "sc") (Rd.sub (Rd.var (by walk_at "vr") (Rd.c (Rd.setL (by walk_at "hp") (by walk_at "ixn") (Rd.asg ?_)))))))⟩)))))
        with_reducible refine Rd.op (Rd.op (Rd.var (by walk_at "vr") (Rd.c (Rd.iC (by walk_at "scm") (Rd.op (Rd.op (Rd.cB (Rd.cons (Rd.op (Rd.op (Rd.var (by walk_at "vr") ?_)))))))))))
        with_reducible refine Rd.c (Rd.ixL (by walk_at "hpl") (by walk_at "vr") (Rd.op (Rd.var (by walk_at "vr") (Rd.c (Rd.ixL (by walk_at "hpl") (by walk_at "vr") (Rd.iC (by walk_at "scm") (Rd.nil ((.inl ⟨_, rfl, (Rd.c (Rd.iC (by walk_at "sc") (Rd.c ?_)))⟩)))))))))
        with_reducible refine Rd.iC (by walk_at "scd") (Rd.i0 (Rd.name (Rd.ret (Rd.op (Rd.cB (Rd.cons (Rd.var (by walk_at "vr") (Rd.nil ((.inl ⟨_, rfl, (Rd.var (by walk_at "vr") (Rd.iC (by walk_at "sc") ?_))⟩))))))))))
        (repeat rw [L2.upd_upd])
        exact k _ _ (Int.emod_nonneg _ (by first | omega | decide)) (Int.emod_lt_of_pos _ hm) ⟨_, _, rfl, hx, (by first | omega | decide), (by first | omega | decide)⟩
      · try simp only [decide_eq_true_eq, Bool.not_eq_true', decide_eq_false_iff_not, Bool.not_eq_true, Bool.not_eq_eq_eq_not, Bool.not_true, Bool.not_false, Int.not_lt, Int.not_le, Decidable.not_not] at h1
        with_reducible refine Rd.next (Rd.ret (Rd.op (Rd.cB (Rd.cons (Rd.var (by walk_at "vr") (Rd.nil ((.inl ⟨_, rfl, (Rd.var (by walk_at "vr") (Rd.iC (by walk_at "sc") ?_))⟩))))))))
        (repeat rw [L2.upd_upd])
        exact k _ _ (Int.emod_nonneg _ (by first | omega | decide)) (Int.emod_lt_of_pos _ hm) ⟨_, _, rfl, hx, (by first | omega | decide), (by first | omega | decide)⟩
/-! _law_form -/
theorem sc_l_form : FnScope ["_law_source_here", "_law_most", "_law_slope"] ["_law_source_here"] (defScope s_l_form) := ⟨rfl, rfl, rfl, by decide +kernel, rfl, by decide +kernel, by decide +kernel⟩
abbrev sp_l_form (K : PySem.W.Frag) (A : Adr) : Sp := fun vs H Q _ => ∃ (a : Addr) (o : HO), vs = [.ref a] ∧ H a = some o ∧ SrcO o ∧ ∀ (p : Addr) (s b : Int) (o' : HO) (H' : Hp), Frm a H H' → H' a = some o' → SrcO o' → H p = none → H' p = some (.tup [.int s, .int b]) → (-(2 ^ 105) < s ∧ s < 2 ^ 105) → (-(2 ^ 105) < b ∧ b < 2 ^ 105) → Q (.ref p) H'
theorem ok_l_form (T : Txt K mg A) : FnOk P w K mg base CX0 2 A.f_l_form A.d_l_form ["_law_source_here"] (sp_l_form K A) := by
  refine T.F_l_form.ok sc_l_form (fun vs H Q E h => ?_) (fun cdv Ar outer s H vs Q E hr h => ?_)
  · obtain ⟨a, o, rfl, ha, ho, k⟩ := h
    rfl
  · obtain ⟨a, o, rfl, ha, ho, k⟩ := h
    have hu := hu_of hr
    have t_i_Form := T.i_Form
    have t_kt_Form_Form := T.kt_Form_Form
    have t_kt_int_Form := T.kt_int_Form
    have t_nf_Form_Form := T.nf_Form_Form
    have t_nf_int_Form := T.nf_int_Form
    have t_k_Form := T.k_Form
    refine ⟨_, (pss_cons (ps_set (i := 1) sc_l_form.nd rfl (Or.inl rfl) (pe_ix ix_list (pe_lst (pa_cons pe_int (pa_cons pe_int (pa_cons (pe_op op_pow pe_int pe_int) (pa_cons (pe_op op_pow pe_int pe_int) pa_nil))))) (pe_call (ok_l_draw T) (hr.mono (by decide)) (by rfl) T.m_l_draw T.F_l_draw.kp T.b_l_draw .nil pass0 (pa_cons (pv 0) (pa_cons pe_int pa_nil))) (fun _ _ => rfl)))
      (pss_cons (ps_set (i := 2) sc_l_form.nd rfl (Or.inl rfl) (pe_op op_mulW (pe_call (ok_l_draw T) (hr.mono (by decide)) (by rfl) T.m_l_draw T.F_l_draw.kp T.b_l_draw .nil pass0 (pa_cons (pv 0) (pa_cons (pe_op op_add (pv 1) pe_int) pa_nil))) (pe_ix ix_list (pe_lst (pa_cons pe_int (pa_cons (pe_un un_neg pe_int) pa_nil))) (pe_call (ok_l_draw T) (hr.mono (by decide)) (by rfl) T.m_l_draw T.F_l_draw.kp T.b_l_draw .nil pass0 (pa_cons (pv 0) (pa_cons pe_int pa_nil))) (fun _ _ => rfl))))
      (pss_cons (ps_set (i := 1) sc_l_form.nd rfl (Or.inl rfl) (pe_ix ix_list (pe_lst (pa_cons pe_int (pa_cons pe_int (pa_cons (pe_op op_pow pe_int pe_int) (pa_cons (pe_op op_pow pe_int pe_int) pa_nil))))) (pe_call (ok_l_draw T) (hr.mono (by decide)) (by rfl) T.m_l_draw T.F_l_draw.kp T.b_l_draw .nil pass0 (pa_cons (pv 0) (pa_cons pe_int pa_nil))) (fun _ _ => rfl)))
      (pss_one (ps_ret (pe_tup (pa_cons (pv 2) (pa_cons (pe_op op_mulW (pe_call (ok_l_draw T) (hr.mono (by decide)) (by rfl) T.m_l_draw T.F_l_draw.kp T.b_l_draw .nil pass0 (pa_cons (pv 0) (pa_cons (pe_op op_add (pv 1) pe_int) pa_nil))) (pe_ix ix_list (pe_lst (pa_cons pe_int (pa_cons (pe_un un_neg pe_int) pa_nil))) (pe_call (ok_l_draw T) (hr.mono (by decide)) (by rfl) T.m_l_draw T.F_l_draw.kp T.b_l_draw .nil pass0 (pa_cons (pv 0) (pa_cons pe_int pa_nil))) (fun _ _ => rfl))) pa_nil)))))))), ?_⟩
    try dsimp only [L2.cxOf, L2.Cx.nox, L2.Cx.wish]
    with_reducible refine Rd.seq (Rd.asg (Rd.op (Rd.lst (Rd.cons (Rd.c (Rd.cons (Rd.c (Rd.cons (Rd.op (Rd.c (Rd.c ?_)))))))))))
    with_reducible refine Rd.iC (by walk_at "scp") (Rd.cons (Rd.op (Rd.c (Rd.c (Rd.iC (by walk_at "scp") (Rd.nil (Rd.laid (by walk_at "ll") ?_)))))))
    intro p0 np0
    with_reducible refine Rd.call (Rd.cons (Rd.var (by walk_at "vr") (Rd.cons (Rd.c (Rd.nil ?_)))))
    refine ⟨_, _, _, rfl, (by walk_at "hp"), (by walk_at "sc"), (by walk_at "sc"), (by walk_at "sc"), fun d1 o1 d1a d1b s1 => ?_⟩
    refine Rd.pick (ns := [3, 30, 1000000, 1000000000000000000000000000000]) (lo := 3) (hi := 1000000000000000000000000000000) (by decide) (by walk_at "hpl") (by walk_at "vr") (by walk_at "sc") (by show (_ : Int) < 4; walk_at "sc") (fun n_0 m_0 na_0 nb_0 => ?_)
    with_reducible refine Rd.name (Rd.seq (Rd.asg (Rd.op (Rd.call (Rd.cons (Rd.var (by walk_at "vr") (Rd.cons (Rd.op (Rd.var (by walk_at "vr") (Rd.c (Rd.i0 ?_)))))))))))
    with_reducible refine Rd.nil ?_
    refine ⟨_, _, _, rfl, (by walk_at "hp"), (by walk_at "sc"), (by walk_at "sc"), (by walk_at "sc"), fun d2 o2 d2a d2b s2 => ?_⟩
    with_reducible refine Rd.op (Rd.lst (Rd.cons (Rd.c (Rd.cons (Rd.un (Rd.c (Rd.iU (Rd.nil (Rd.laid (by walk_at "ll") ?_)))))))))
    intro p1 np1
    with_reducible refine Rd.call (Rd.cons (Rd.var (by walk_at "vr") (Rd.cons (Rd.c (Rd.nil ?_)))))
    refine ⟨_, _, _, rfl, (by walk_at "hp"), (by walk_at "sc"), (by walk_at "sc"), (by walk_at "sc"), fun d3 o3 d3a d3b s3 => ?_⟩
    refine Rd.pick (ns := [1, -1]) (lo := -1) (hi := 1) (by decide) (by walk_at "hpl") (by walk_at "vr") (by walk_at "sc") (by show (_ : Int) < 2; walk_at "sc") (fun n_1 m_1 na_1 nb_1 => ?_)
    with_reducible refine Rd.iC (by walk_at "scm") (Rd.name ?_)
    have sg1 := Rd.sgn d2a d2b m_1
    generalize d2 * n_1 = sl at sg1 ⊢
    with_reducible refine Rd.seq (Rd.asg (Rd.op (Rd.lst (Rd.cons (Rd.c (Rd.cons (Rd.c (Rd.cons (Rd.op (Rd.c (Rd.c ?_)))))))))))
    with_reducible refine Rd.iC (by walk_at "scp") (Rd.cons (Rd.op (Rd.c (Rd.c (Rd.iC (by walk_at "scp") (Rd.nil (Rd.laid (by walk_at "ll") ?_)))))))
    intro p2 np2
    with_reducible refine Rd.call (Rd.cons (Rd.var (by walk_at "vr") (Rd.cons (Rd.c (Rd.nil ?_)))))
    refine ⟨_, _, _, rfl, (by walk_at "hp"), (by walk_at "sc"), (by walk_at "sc"), (by walk_at "sc"), fun d4 o4 d4a d4b s4 => ?_⟩
    refine Rd.pick (ns := [3, 30, 1000000, 1000000000000000000000000000000]) (lo := 3) (hi := 1000000000000000000000000000000) (by decide) (by walk_at "hpl") (by walk_at "vr") (by walk_at "sc") (by show (_ : Int) < 4; walk_at "sc") (fun n_2 m_2 na_2 nb_2 => ?_)
    with_reducible refine Rd.name (Rd.ret (Rd.tup (Rd.cons (Rd.var (by walk_at "vr") (Rd.cons (Rd.op (Rd.call (Rd.cons (Rd.var (by walk_at "vr") (Rd.cons (Rd.op ?_)))))))))))
    with_reducible refine Rd.var (by walk_at "vr") (Rd.c (Rd.i0 (Rd.nil ?_)))
    refine ⟨_, _, _, rfl, (by walk_at "hp"), (by walk_at "sc"), (by walk_at "sc"), (by walk_at "sc"), fun d5 o5 d5a d5b s5 => ?_⟩
    with_reducible refine Rd.op (Rd.lst (Rd.cons (Rd.c (Rd.cons (Rd.un (Rd.c (Rd.iU (Rd.nil (Rd.laid (by walk_at "ll") ?_)))))))))
    intro p4 np4
    with_reducible refine Rd.call (Rd.cons (Rd.var (by walk_at "vr") (Rd.cons (Rd.c (Rd.nil ?_)))))
    refine ⟨_, _, _, rfl, (by walk_at "hp"), (by walk_at "sc"), (by walk_at "sc"), (by walk_at "sc"), fun d6 o6 d6a d6b s6 => ?_⟩
    refine Rd.pick (ns := [1, -1]) (lo := -1) (hi := 1) (by decide) (by walk_at "hpl") (by walk_at "vr") (by walk_at "sc") (by show (_ : Int) < 2; walk_at "sc") (fun n_3 m_3 na_3 nb_3 => ?_)
    with_reducible refine Rd.iC (by walk_at "scm") (Rd.nil (Rd.laid (by walk_at "ll") ?_))
    intro p3 np3
    have sg2 := Rd.sgn d5a d5b m_3
    exact k _ _ _ _ _ (by walk_at "frm") (by walk_at "hp") (by walk_at "sc") (by walk_at "nn") L2.upd_same (by walk_at "sc") (by walk_at "sc")
/-! _law_compared -/
theorem sc_l_compared : FnScope ["_law_one", "_law_other", "_law_first", "_law_second", "_law_told", "_law_less", "_law_n", "_law_truth", "_law_part"] ["_law_one", "_law_other"] (defScope s_l_compared) := ⟨rfl, rfl, rfl, by decide +kernel, rfl, by decide +kernel, by decide +kernel⟩
abbrev sp_l_compared (K : PySem.W.Frag) (A : Adr) : Sp := fun vs H Q _ => ∃ (t1 t2 : Addr) (a b c d : Int), vs = [.ref t1, .ref t2] ∧ H t1 = some (.tup [.int a, .int b]) ∧ H t2 = some (.tup [.int c, .int d]) ∧ (-(2 ^ 106) < a ∧ a < 2 ^ 106) ∧ (-(2 ^ 106) < b ∧ b < 2 ^ 106) ∧ (-(2 ^ 106) < c ∧ c < 2 ^ 106) ∧ (-(2 ^ 106) < d ∧ d < 2 ^ 106) ∧ ∀ H', Same H H' → Q (.bl true) H'
theorem ok_l_compared (T : Txt K mg A) : FnOk P w K mg base CX0 6 A.f_l_compared A.d_l_compared ["_law_one", "_law_other"] (sp_l_compared K A) := by
  refine T.F_l_compared.ok sc_l_compared (fun vs H Q E h => ?_) (fun cdv Ar outer s H vs Q E hr h => ?_)
  · obtain ⟨t1, t2, a, b, c, d, rfl, ht1, ht2, ha, hb, hc, hd, k⟩ := h
    rfl
  · obtain ⟨t1, t2, a, b, c, d, rfl, ht1, ht2, ha, hb, hc, hd, k⟩ := h
    have hu := hu_of hr
    have t_i_Form := T.i_Form
    have t_kt_Form_Form := T.kt_Form_Form
    have t_kt_int_Form := T.kt_int_Form
    have t_nf_Form_Form := T.nf_Form_Form
    have t_nf_int_Form := T.nf_int_Form
    have t_k_Form := T.k_Form
    refine ⟨_, (pss_cons (ps_par (by rfl) sc_l_compared.nd (i := 2) (j := 3) rfl rfl (by decide) rfl rfl (pa_cons (pe_make T.K_Form (ok_Formu__initu_ T) (hr.mono (by decide)) (by rfl) T.m_Form T.b_Formu__initu_ .nil pass0 (pa_cons (pe_ix ix_tup (pv 0) pe_int (fun _ _ => rfl)) (pa_cons (pe_ix ix_tup (pv 0) pe_int (fun _ _ => rfl)) pa_nil))) (pa_cons (pe_make T.K_Form (ok_Formu__initu_ T) (hr.mono (by decide)) (by rfl) T.m_Form T.b_Formu__initu_ .nil pass0 (pa_cons (pe_ix ix_tup (pv 1) pe_int (fun _ _ => rfl)) (pa_cons (pe_ix ix_tup (pv 1) pe_int (fun _ _ => rfl)) pa_nil))) pa_nil)) (by rfl))
      (pss_cons (ps_set (i := 4) sc_l_compared.nd rfl (Or.inl rfl) (pe_lst (pa_cons (pe_cmpR (Own.cmp (cop := .Lt) (ok_Formu__ltu_ T) (hr.mono (by decide)) T.O_Formu__ltu__1 T.b_Formu__ltu_ pass0) (pv 2) (pv 3) (nomark _)) (pa_cons (pe_cmpR (Own.cmp (cop := .LtE) (ok_Formu__leu_ T) (hr.mono (by decide)) T.O_Formu__leu__1 T.b_Formu__leu_ pass0) (pv 2) (pv 3) (nomark _)) (pa_cons (pe_cmpR (Own.cmp (cop := .Gt) (ok_Formu__gtu_ T) (hr.mono (by decide)) T.O_Formu__gtu__1 T.b_Formu__gtu_ pass0) (pv 2) (pv 3) (nomark _)) (pa_cons (pe_cmpR (Own.cmp (cop := .GtE) (ok_Formu__geu_ T) (hr.mono (by decide)) T.O_Formu__geu__1 T.b_Formu__geu_ pass0) (pv 2) (pv 3) (nomark _)) pa_nil))))))
      (pss_cons (ps_if (pt_cmpR (op_neD hr.units) (pe_lc (own := [("_law_truth", 7)]) (g := gName 7) rfl sc_l_compared.nd (pi_list (pv 4)) (blkOk_by (own := [("_law_truth", 7)]) (N := ["_law_one", "_law_other", "_law_first", "_law_second", "_law_told", "_law_less", "_law_n", "_law_truth", "_law_part"]) (sc := defScope s_l_compared) (by decide +kernel)) (fun _ _ _ _ _ => pg_name (i := 7) sc_l_compared.nd rfl (Or.inl rfl)) (fun _ _ _ _ _ => pts_one (pt_not (pt_val (pe_callB (Rd.isi (K := K) rfl) (by rfl) T.n_isinstance (by decide +kernel) (pa_cons (pv 7) (pa_cons (pe_bltn (v := .ty "bool") (u := .type "bool") (by rfl) T.n_bool (by decide +kernel) rfl) pa_nil)))))) (fun _ _ _ _ _ => (pv 7))) (pe_lst pa_nil) (nomark _)) (pss_one (ps_ret pe_bl)) pss_nil)
      (pss_cons (ps_set (i := 5) sc_l_compared.nd rfl (Or.inl rfl) (pe_or (pe_cmpR op_lt (pe_ix ix_tup (pv 0) pe_int (fun _ _ => rfl)) (pe_ix ix_tup (pv 1) pe_int (fun _ _ => rfl)) (nomark _)) (pe_one (pe_and (pe_cmpR op_eq (pe_ix ix_tup (pv 0) pe_int (fun _ _ => rfl)) (pe_ix ix_tup (pv 1) pe_int (fun _ _ => rfl)) (nomark _)) (pe_one (pe_cmpR op_lt (pe_ix ix_tup (pv 0) pe_int (fun _ _ => rfl)) (pe_ix ix_tup (pv 1) pe_int (fun _ _ => rfl)) (nomark _)))))))
      (pss_cons (ps_if (pt_cmpR (op_neD hr.units) (pv 4) (pe_lst (pa_cons (pv 5) (pa_cons (pe_or (pv 5) (pe_one (pe_cmpR (op_eqD hr.units) (pv 0) (pv 1) (nomark _)))) (pa_cons (pe_and (pe_not (pv 5)) (pe_one (pe_cmpR (op_neD hr.units) (pv 0) (pv 1) (nomark _)))) (pa_cons (pe_not (pv 5)) pa_nil))))) (nomark _)) (pss_one (ps_ret pe_bl)) pss_nil)
      (pss_cons (ps_if (pt_cmpR op_gt (pe_callBK (MxK.ck_max rfl) (by rfl) T.n_max (by decide +kernel) (pa_cons (pe_lc (own := [("_law_part", 8)]) (g := gName 8) rfl sc_l_compared.nd (pi_tup (pe_op op_catT (pv 0) (pv 1))) (blkOk_by (own := [("_law_part", 8)]) (N := ["_law_one", "_law_other", "_law_first", "_law_second", "_law_told", "_law_less", "_law_n", "_law_truth", "_law_part"]) (sc := defScope s_l_compared) (by decide +kernel)) (fun _ _ _ _ _ => pg_name (i := 8) sc_l_compared.nd rfl (Or.inl rfl)) (fun _ _ _ _ _ => pts_nil) (fun _ _ _ _ _ => (pe_callB call_abs (by rfl) T.n_abs (by decide +kernel) (pa_cons (pv 8) pa_nil)))) pa_nil) (pk_cons (pe_bltn (v := .ty "int") (u := .type "int") (by rfl) T.n_int (by decide +kernel) rfl) pk_nil)) (pe_op op_pow pe_int pe_int) (nomark _)) (pss_one (ps_ret pe_bl)) pss_nil)
      (pss_cons (ps_for PassesOwn.never rfl (pi_list (pe_lst (pa_cons (pe_op op_pow pe_int pe_int) (pa_cons (pe_op op_pow pe_int pe_int) pa_nil)))) (pg_name (i := 6) sc_l_compared.nd rfl (Or.inl rfl)) (pss_cons (ps_if (pt_cmpR op_ne (pe_cmpR op_lt (Own.pe_callI (pv 2) T.O_Formu__callu__C (Own.fnR_of (ok_Formu__callu_ T) T.b_Formu__callu_) (hr.mono (by decide)) pass0 (pa_cons (pv 6) pa_nil)) (Own.pe_callI (pv 3) T.O_Formu__callu__C (Own.fnR_of (ok_Formu__callu_ T) T.b_Formu__callu_) (hr.mono (by decide)) pass0 (pa_cons (pv 6) pa_nil)) (nomark _)) (pv 5) (nomark _)) (pss_one (ps_ret pe_bl)) pss_nil)
      (pss_one (ps_if (pt_cmpR op_ne (pe_cmpR op_eq (Own.pe_callI (pv 2) T.O_Formu__callu__C (Own.fnR_of (ok_Formu__callu_ T) T.b_Formu__callu_) (hr.mono (by decide)) pass0 (pa_cons (pv 6) pa_nil)) (Own.pe_callI (pv 3) T.O_Formu__callu__C (Own.fnR_of (ok_Formu__callu_ T) T.b_Formu__callu_) (hr.mono (by decide)) pass0 (pa_cons (pv 6) pa_nil)) (nomark _)) (pe_cmpR (op_eqD hr.units) (pv 0) (pv 1) (nomark _)) (nomark _)) (pss_one (ps_ret pe_bl)) pss_nil))))
      (pss_one (ps_ret pe_bl))))))))), ?_⟩
    try dsimp only [L2.cxOf, L2.Cx.nox, L2.Cx.wish]
    with_reducible refine Rd.seq (Rd.par (Rd.cons (Rd.make (Rd.cons (Rd.op (Rd.var (by walk_at "vr") (Rd.c (Rd.ixT (by walk_at "hpt") (by walk_at "vr") (Rd.cons (Rd.op (Rd.var (by walk_at "vr") ?_)))))))))))
    with_reducible refine Rd.c (Rd.ixT (by walk_at "hpt") (by walk_at "vr") (Rd.nil ?_))
    intro x1 dx1 nx1 ndx1 ne1
    refine ⟨_, _, _, _, rfl, L2.upd_same, ?_⟩
    refine ⟨rfl, ?_⟩
    rw [L2.upd_upd]
    with_reducible refine Rd.cons (Rd.make (Rd.cons (Rd.op (Rd.var (by walk_at "vr") (Rd.c (Rd.ixT (by walk_at "hpt") (by walk_at "vr") (Rd.cons (Rd.op (Rd.var (by walk_at "vr") (Rd.c (Rd.ixT (by walk_at "hpt") (by walk_at "vr") ?_)))))))))))
    with_reducible refine Rd.nil ?_
    intro x2 dx2 nx2 ndx2 ne2
    refine ⟨_, _, _, _, rfl, L2.upd_same, ?_⟩
    refine ⟨rfl, ?_⟩
    rw [L2.upd_upd]
    with_reducible refine Rd.nil (⟨_, _, rfl, (Rd.seq (Rd.asg (Rd.lst (Rd.cons (Rd.op (Rd.var (by walk_at "vr") (Rd.var (by walk_at "vr") (Own.cmp2 (by walk_at "hp") (by walk_at "tyx") (by walk_at "nf") ?_))))))))⟩)
    refine ⟨_, _, _, _, _, _, _, _, rfl, (by walk_at "hp"), (by walk_at "hp"), fun H3 S3 => ?_⟩
    with_reducible refine Rd.cons (Rd.op (Rd.var (by walk_at "vr") (Rd.var (by walk_at "vr") (Own.cmp2 (by walk_at "hp") (by walk_at "tyx") (by walk_at "nf") ?_))))
    refine ⟨_, _, _, _, _, _, _, _, rfl, (by walk_at "hp"), (by walk_at "hp"), fun H4 S4 => ?_⟩
    with_reducible refine Rd.cons (Rd.op (Rd.var (by walk_at "vr") (Rd.var (by walk_at "vr") (Own.cmp2 (by walk_at "hp") (by walk_at "tyx") (by walk_at "nf") ?_))))
    refine ⟨_, _, _, _, _, _, _, _, rfl, (by walk_at "hp"), (by walk_at "hp"), fun H5 S5 => ?_⟩
    with_reducible refine Rd.cons (Rd.op (Rd.var (by walk_at "vr") (Rd.var (by walk_at "vr") (Own.cmp2 (by walk_at "hp") (by walk_at "tyx") (by walk_at "nf") ?_))))
    refine ⟨_, _, _, _, _, _, _, _, rfl, (by walk_at "hp"), (by walk_at "hp"), fun H6 S6 => ?_⟩
    with_reducible refine Rd.nil (Rd.laid (by walk_at "ll") ?_)
    intro p1 np1
    with_reducible refine Rd.name (Rd.seq (Rd.ifS (Rd.test (Rd.op ?_))))
    refine Rd.lcNone (by walk_at "vr") (by walk_at "hpl") (by intro _; rfl) (fun n hnn He Se Re k1 => ?lca2) (fun pe He npe Se hpe => ?_)
    case lca2 =>
      obtain ⟨i, rfl⟩ : ∃ i : Bool, n = V.bl i := by
        simp only [List.mem_cons, List.not_mem_nil, or_false] at hnn
        rcases hnn with rfl | rfl | rfl | rfl <;> exact ⟨_, rfl⟩
      with_reducible refine Rd.not (Rd.tb (Rd.cB (Rd.cons (Rd.var (by walk_at "vr") (Rd.cons (Rd.c (Rd.nil ?_)))))))
      refine ⟨_, _, _, _, _, rfl, (by walk_at "clsv"), (by walk_at "tyx"), (by walk_at "kit"), ?_⟩
      with_reducible refine Rd.bl ?_
      exact k1 _ (Same.refl _)
    rotate_left 0
    with_reducible refine Rd.lst (Rd.nil (Rd.laid (by walk_at "ll") ?_))
    intro p3 np3
    refine ⟨_, _, (by walk_at "dp"), (by walk_at "dp"), (by walk_at "shp"), (by walk_at "shp"), ?_⟩
    with_reducible refine Rd.bl (Rd.iteF (by walk_at "bF") (Rd.next (Rd.seq (Rd.asg (Rd.orV (Rd.op (Rd.op (Rd.var (by walk_at "vr") (Rd.c (Rd.ixT (by walk_at "hpt") (by walk_at "vr") (Rd.op ?_)))))))))))
    with_reducible refine Rd.var (by walk_at "vr") (Rd.c (Rd.ixT (by walk_at "hpt") (by walk_at "vr") (Rd.i0 (Rd.bl ?_))))
    refine' Rd.orB (d := _) (fun Q1 hq1 => ?pa1) ?pb1
    case pa1 =>
      with_reducible refine Rd.andV (Rd.op (Rd.op (Rd.var (by walk_at "vr") (Rd.c (Rd.ixT (by walk_at "hpt") (by walk_at "vr") (Rd.op (Rd.var (by walk_at "vr") (Rd.c (Rd.ixT (by walk_at "hpt") (by walk_at "vr") (Rd.eqS (by walk_at "vr") (Rd.bl ?_)))))))))))
      refine' Rd.andB (d := _) (fun Q2 hq2 => ?pa2) ?pb2
      case pa2 =>
        with_reducible refine Rd.op (Rd.op (Rd.var (by walk_at "vr") (Rd.c (Rd.ixT (by walk_at "hpt") (by walk_at "vr") (Rd.op (Rd.var (by walk_at "vr") (Rd.c (Rd.ixT (by walk_at "hpt") (by walk_at "vr") (Rd.i0 ?_)))))))))
        exact hq2
      rotate_left 0
      exact hq1
    rotate_left 0
    with_reducible refine Rd.name ?_
    rw [Rd.lessV]
    with_reducible refine Rd.seq (Rd.ifS (Rd.test (Rd.op (Rd.var (by walk_at "vr") (Rd.lst (Rd.cons (Rd.var (by walk_at "vr") (Rd.cons (Rd.orV (Rd.var (by walk_at "vr") (Rd.bl ?_)))))))))))
    refine' Rd.orB (d := _) (fun Q3 hq3 => ?pa3) ?pb3
    case pa3 =>
      with_reducible refine Rd.op (Rd.var (by walk_at "vr") (Rd.var (by walk_at "vr") ?_))
      refine ⟨_, _, Rd.dp_pair (a := a) (b := b) (L2.SqT.of (by walk_at "hp")), Rd.dp_pair (a := c) (b := d) (L2.SqT.of (by walk_at "hp")), Rd.shaped_pair _ _, Rd.shaped_pair _ _, ?_⟩
      exact hq3
    rotate_left 0
    with_reducible refine Rd.cons (Rd.andV (Rd.notV (Rd.var (by walk_at "vr") (Rd.bl (Rd.bl ?_)))))
    refine' Rd.andB (d := _) (fun Q4 hq4 => ?pa4) ?pb4
    case pa4 =>
      with_reducible refine Rd.op (Rd.var (by walk_at "vr") (Rd.var (by walk_at "vr") ?_))
      refine ⟨_, _, Rd.dp_pair (a := a) (b := b) (L2.SqT.of (by walk_at "hp")), Rd.dp_pair (a := c) (b := d) (L2.SqT.of (by walk_at "hp")), Rd.shaped_pair _ _, Rd.shaped_pair _ _, ?_⟩
      exact hq4
    rotate_left 0
    with_reducible refine Rd.cons (Rd.notV (Rd.var (by walk_at "vr") (Rd.bl (Rd.nil (Rd.laid (by walk_at "ll") ?_)))))
    intro p4 np4
    refine ⟨_, _, Rd.dp_b4 (L2.SqL.of (by walk_at "hp")), Rd.dp_b4 (L2.SqL.of (by walk_at "hp")), Rd.shaped_b4 _ _ _ _, Rd.shaped_b4 _ _ _ _, ?_⟩
    rw [Rd.told4]
    with_reducible refine Rd.bl (Rd.iteF (by walk_at "bF") (Rd.next (Rd.seq (Rd.ifS (Rd.test (Rd.op (Rd.ckw (Rd.cons ?_))))))))
    refine Rd.lcCatI (a := a) (b := b) (c := c) (d := d) (g := fun n => if n < 0 then -n else n) (by walk_at "vr") (by walk_at "vr") (L2.SqT.of (by walk_at "hp")) (L2.SqT.of (by walk_at "hp")) (by intro _; rfl) (fun n hnn Hm Sm Rm k2 => ?lca5) (fun pm Hm Sm hpm => ?_)
    case lca5 =>
      with_reducible refine Rd.cB (Rd.cons (Rd.var (by walk_at "vr") (Rd.nil (⟨_, rfl, ?_⟩))))
      exact k2 _ (Same.refl _)
    rotate_left 0
    with_reducible refine Rd.nil (Rd.cons (Rd.c (Rd.nil ?_)))
    refine ⟨_, _, rfl, rfl, (by walk_at "hpl"), (by simp), fun mx1 hmx1m hmx1l => ?_⟩
    with_reducible refine Rd.op (Rd.c (Rd.c (Rd.iC (by walk_at "scp") (Rd.i0 (Rd.bl ?_)))))
    refine Rd.ite (fun h6 => ?_) (fun h6 => ?_)
    · try simp only [decide_eq_true_eq, Bool.not_eq_true', decide_eq_false_iff_not, Bool.not_eq_true, Bool.not_eq_eq_eq_not, Bool.not_true, Bool.not_false] at h6
      with_reducible refine Rd.ret (Rd.c ?_)
      exact k _ (by walk_at "frm")
    · try simp only [decide_eq_true_eq, Bool.not_eq_true', decide_eq_false_iff_not, Bool.not_eq_true, Bool.not_eq_eq_eq_not, Bool.not_true, Bool.not_false, Int.not_lt, Int.not_le, Decidable.not_not] at h6
      with_reducible refine Rd.next (Rd.seq (Rd.fr (Rd.il (Rd.lst (Rd.cons (Rd.op (Rd.c (Rd.c (Rd.iC (by walk_at "scp") (Rd.cons (Rd.op ?_)))))))))))
      with_reducible refine Rd.c (Rd.c (Rd.iC (by walk_at "scp") (Rd.nil (Rd.laid (by walk_at "ll") ?_))))
      intro p6 np6
      with_reducible refine ⟨_, rfl, ?_⟩
      have hm : mx1 ≤ 1000000 := by with_unfolding_all exact h6
      have ya := Rd.absB (hmx1l (if a < 0 then -a else a) (by simp only [List.map_cons, List.mem_cons]; simp))
      have yb := Rd.absB (hmx1l (if b < 0 then -b else b) (by simp only [List.map_cons, List.mem_cons]; simp))
      have yc := Rd.absB (hmx1l (if c < 0 then -c else c) (by simp only [List.map_cons, List.mem_cons]; simp))
      have yd := Rd.absB (hmx1l (if d < 0 then -d else d) (by simp only [List.map_cons, List.mem_cons]; simp))
      refine ⟨⟨_, (by walk_at "hpl")⟩, for_list (xs := [.int 1000000000, .int 1000000000000000000000000000000]) (fun (_ : Nat) (σ : L2.St) (H' : Hp) => ∃ v1 v2 v3 : Option V, σ = [some (.ref t1), some (.ref t2), some (.ref x1), some (.ref x2), some (.ref p1), some (.bl (decide (a < c ∨ a = c ∧ b < d))), v1, v2, v3] ∧ Same H H' ∧ H' x1 = some (.ins A.c_Form dx1 (fF a b)) ∧ H' x2 = some (.ins A.c_Form dx2 (fF c d)) ∧ H' p6 = some (.lst [.int 1000000000, .int 1000000000000000000000000000000])) ⟨_, _, _, rfl, (by walk_at "frm"), (by walk_at "hp"), (by walk_at "hp"), (by with_unfolding_all exact L2.upd_same)⟩ (fun i σ H0 hi ⟨v1, v2, v3, es, S0, hf, hg, hI⟩ => .of hI) (fun i x σ H0 hx ⟨v1, v2, v3, es, S0, hf, hg, hI⟩ => ?_) (fun σ H0 ⟨v1, v2, v3, es, S0, hf, hg, hI⟩ => ?_)⟩
      · subst es
        obtain ⟨n, rfl, hn⟩ : ∃ n : Int, x = .int n ∧ (n = 1000000000 ∨ n = 1000000000000000000000000000000) := by
          rcases Rd.two hx with rfl | rfl
          · exact ⟨_, rfl, .inl rfl⟩
          · exact ⟨_, rfl, .inr rfl⟩
        have hu1 := Sget S0 ht1
        have hu2 := Sget S0 ht2
        with_reducible refine Rd.name (Rd.seq (Rd.ifS (Rd.test (Rd.op (Rd.op (Own.callI (Rd.var (by walk_at "vr") (⟨_, rfl, (Rd.cons (Rd.var (by walk_at "vr") (Rd.nil ?_)))⟩))))))))
        with_reducible refine ⟨⟨_, _, (by walk_at "hp")⟩, ?_⟩
        refine ⟨_, _, _, _, _, rfl, (by walk_at "hp"), (by walk_at "sc"), (by walk_at "sc"), (by walk_at "sc"), ?_⟩
        with_reducible refine Own.callI (Rd.var (by walk_at "vr") (⟨_, rfl, (Rd.cons (Rd.var (by walk_at "vr") (Rd.nil (⟨⟨_, _, (by walk_at "hp")⟩, ?_⟩))))⟩))
        refine ⟨_, _, _, _, _, rfl, (by walk_at "hp"), (by walk_at "sc"), (by walk_at "sc"), (by walk_at "sc"), ?_⟩
        with_reducible refine Rd.i0 (Rd.var (by walk_at "vr") ?_)
        refine Rd.neS (by walk_at "vr") ?_
        rw [Rd.ltAt hn hm ya yb yc yd]
        with_reducible refine Rd.bl (Rd.iteF (by walk_at "bF") (Rd.next (Rd.ifS (Rd.test (Rd.op (Rd.op (Own.callI (Rd.var (by walk_at "vr") (⟨_, rfl, (Rd.cons (Rd.var (by walk_at "vr") ?_))⟩)))))))))
        with_reducible refine Rd.nil (⟨⟨_, _, (by walk_at "hp")⟩, ?_⟩)
        refine ⟨_, _, _, _, _, rfl, (by walk_at "hp"), (by walk_at "sc"), (by walk_at "sc"), (by walk_at "sc"), ?_⟩
        with_reducible refine Own.callI (Rd.var (by walk_at "vr") (⟨_, rfl, (Rd.cons (Rd.var (by walk_at "vr") (Rd.nil (⟨⟨_, _, (by walk_at "hp")⟩, ?_⟩))))⟩))
        refine ⟨_, _, _, _, _, rfl, (by walk_at "hp"), (by walk_at "sc"), (by walk_at "sc"), (by walk_at "sc"), ?_⟩
        with_reducible refine Rd.eqS (by walk_at "vr") (Rd.op (Rd.var (by walk_at "vr") (Rd.var (by walk_at "vr") ?_)))
        refine ⟨_, _, Rd.dp_pair (a := a) (b := b) (L2.SqT.of (by walk_at "hp")), Rd.dp_pair (a := c) (b := d) (L2.SqT.of (by walk_at "hp")), Rd.shaped_pair _ _, Rd.shaped_pair _ _, ?_⟩
        refine Rd.neS (by walk_at "vr") ?_
        rw [Rd.eqv_pairV, Rd.eqAt hn hm ya yb yc yd]
        with_reducible refine Rd.bl (Rd.iteF (by walk_at "bF") (Rd.next ?_))
        exact ⟨_, _, _, rfl, (by walk_at "frm"), (by walk_at "hp"), (by walk_at "hp"), (by walk_at "hp")⟩
      · subst es
        with_reducible refine Rd.ret (Rd.c ?_)
        exact k _ (by walk_at "frm")
/-! law -/
theorem sc_law : FnScope ["_law_script", "_law_turn", "_law_source_here", "_law_one", "_law_other", "_law_way"] ["_law_script"] (defScope s_law) := ⟨rfl, rfl, rfl, by decide +kernel, rfl, by decide +kernel, by decide +kernel⟩
abbrev sp_law (K : PySem.W.Frag) : Sp := fun vs H Q _ => ∃ (a : Addr) (ns : List Int), vs = [.ref a] ∧ SqL K H a (ns.map V.int) ∧ ns.length ≤ 63 ∧ ∀ H', Q (.bl true) H'
theorem ok_law (T : Txt K mg A) : FnOk P w K mg base CX0 7 A.f_law A.d_law ["_law_script"] (sp_law K) := by
  refine T.F_law.ok sc_law (fun vs H Q E h => ?_) (fun cdv Ar outer s H vs Q E hr h => ?_)
  · obtain ⟨a, ns, rfl, hS, hlen, k⟩ := h
    rfl
  · obtain ⟨a, ns, rfl, hS, hlen, k⟩ := h
    have hu := hu_of hr
    have t_i_Form := T.i_Form
    have t_kt_Form_Form := T.kt_Form_Form
    have t_kt_int_Form := T.kt_int_Form
    have t_nf_Form_Form := T.nf_Form_Form
    have t_nf_int_Form := T.nf_int_Form
    have t_k_Form := T.k_Form
    refine ⟨_, (pss_cons (ps_for PassesOwn.never rfl (pi_range1 (by rfl) T.n_range (pa_cons (pe_callB (call_max2 rfl) (by rfl) T.n_max (by decide +kernel) (pa_cons pe_int (pa_cons (pe_callB (call_min2 rfl) (by rfl) T.n_min (by decide +kernel) (pa_cons (pe_callB call_len_seq (by rfl) T.n_len PySem.boot_len (pa_cons (pv 0) pa_nil)) (pa_cons pe_int pa_nil))) pa_nil))) pa_nil)) (pg_name (i := 1) sc_law.nd rfl (Or.inl rfl)) (pss_cons (ps_set (i := 2) sc_law.nd rfl (Or.inl rfl) (pe_call (ok_l_source T) (hr.mono (by decide)) (by rfl) T.m_l_source T.F_l_source.kp T.b_l_source .nil pass0 (pa_cons (pv 0) (pa_cons (pv 1) pa_nil))))
      (pss_cons (ps_par (by rfl) sc_law.nd (i := 3) (j := 4) rfl rfl (by decide) rfl rfl (pa_cons (pe_call (ok_l_form T) (hr.mono (by decide)) (by rfl) T.m_l_form T.F_l_form.kp T.b_l_form .nil pass0 (pa_cons (pv 2) pa_nil)) (pa_cons (pe_call (ok_l_form T) (hr.mono (by decide)) (by rfl) T.m_l_form T.F_l_form.kp T.b_l_form .nil pass0 (pa_cons (pv 2) pa_nil)) pa_nil)) (by rfl))
      (pss_cons (ps_set (i := 5) sc_law.nd rfl (Or.inl rfl) (pe_call (ok_l_draw T) (hr.mono (by decide)) (by rfl) T.m_l_draw T.F_l_draw.kp T.b_l_draw .nil pass0 (pa_cons (pv 2) (pa_cons pe_int pa_nil))))
      (pss_cons (ps_if (pt_cmpR op_eq (pv 5) pe_int (nomark _)) (pss_one (ps_set (i := 4) sc_law.nd rfl (Or.inl rfl) (pe_tup (pa_cons (pe_ix ix_tup (pv 3) pe_int (fun _ _ => rfl)) (pa_cons (pe_ix ix_tup (pv 4) pe_int (fun _ _ => rfl)) pa_nil))))) pss_nil)
      (pss_cons (ps_if (pt_cmpR op_eq (pv 5) pe_int (nomark _)) (pss_one (ps_set (i := 4) sc_law.nd rfl (Or.inl rfl) (pv 3))) pss_nil)
      (pss_cons (ps_if (PW.pt (pw_or (pt_not (pt_val (pe_call (ok_l_compared T) (hr.mono (by decide)) (by rfl) T.m_l_compared T.F_l_compared.kp T.b_l_compared .nil pass0 (pa_cons (pv 3) (pa_cons (pv 4) pa_nil))))) (pw_or1 (pt_not (pt_val (pe_call (ok_l_compared T) (hr.mono (by decide)) (by rfl) T.m_l_compared T.F_l_compared.kp T.b_l_compared .nil pass0 (pa_cons (pv 4) (pa_cons (pv 3) pa_nil)))))))) (pss_one (ps_ret pe_bl)) pss_nil)
      (pss_cons (ps_if (pt_not (pt_val (pe_call (ok_l_compared T) (hr.mono (by decide)) (by rfl) T.m_l_compared T.F_l_compared.kp T.b_l_compared .nil pass0 (pa_cons (pv 3) (pa_cons (pv 3) pa_nil))))) (pss_one (ps_ret pe_bl)) pss_nil)
      (pss_one (ps_if (pt_not (pt_val (pe_call (ok_l_compared T) (hr.mono (by decide)) (by rfl) T.m_l_compared T.F_l_compared.kp T.b_l_compared .nil pass0 (pa_cons (pv 3) (pa_cons (pe_tup (pa_cons (pe_ix ix_tup (pv 3) pe_int (fun _ _ => rfl)) (pa_cons (pe_op op_add (pe_ix ix_tup (pv 3) pe_int (fun _ _ => rfl)) pe_int) pa_nil))) pa_nil))))) (pss_one (ps_ret pe_bl)) pss_nil))))))))))
      (pss_one (ps_ret pe_bl))), ?_⟩
    try dsimp only [L2.cxOf, L2.Cx.nox, L2.Cx.wish]
    with_reducible refine Rd.seq (Rd.fr (Rd.rng1 (Rd.cons (Rd.cB (Rd.cons (Rd.c (Rd.cons (Rd.cB (Rd.cons (Rd.cB (Rd.cons ?_)))))))))))
    with_reducible refine Rd.var (by walk_at "vr") (Rd.nil (⟨_, _, rfl, (by walk_at "hpq"), (Rd.cons (Rd.c (Rd.nil (⟨_, _, rfl, (Rd.nil (⟨_, _, rfl, (Rd.nil (⟨_, rfl, (by walk_at "sc"), (by walk_at "sc"), ?_⟩))⟩))⟩))))⟩))
    refine for_range (lo := 0) (fun (_ : Nat) (σ : L2.St) (H' : Hp) => ∃ v1 v2 v3 v4 v5 : Option V, σ = [some (.ref a), v1, v2, v3, v4, v5] ∧ Same H H') ⟨none, none, none, none, none, rfl, Same.refl _⟩ (fun i σ H0 hi ⟨v1, v2, v3, v4, v5, es, S0⟩ => ?_) (fun σ H0 ⟨v1, v2, v3, v4, v5, es, S0⟩ => ?_)
    · subst es
      have hS0 := Same.seq S0 hS
      with_reducible refine Rd.name (Rd.seq (Rd.asg (Rd.call (Rd.cons (Rd.var (by walk_at "vr") (Rd.cons (Rd.var (by walk_at "vr") (Rd.nil ?_))))))))
      refine ⟨_, _, _, rfl, (by walk_at "hpl"), (by walk_at "sc"), (by walk_at "sc"), fun src1 o1 src1n s1 => ?_⟩
      with_reducible refine Rd.name (Rd.seq (Rd.par (Rd.cons (Rd.call (Rd.cons (Rd.var (by walk_at "vr") (Rd.nil ?_)))))))
      refine ⟨_, _, rfl, (by walk_at "hp"), (by walk_at "sc"), fun t2 s2 b2 o2 H2 F2 r2 so2 n2 e2 bs2 bb2 => ?_⟩
      with_reducible refine Rd.cons (Rd.call (Rd.cons (Rd.var (by walk_at "vr") (Rd.nil ?_))))
      refine ⟨_, _, rfl, (by walk_at "hp"), (by walk_at "sc"), fun t3 s3 b3 o3 H3 F3 r3 so3 n3 e3 bs3 bb3 => ?_⟩
      with_reducible refine Rd.nil (⟨_, _, rfl, (Rd.seq (Rd.asg (Rd.call (Rd.cons (Rd.var (by walk_at "vr") (Rd.cons (Rd.c (Rd.nil ?_))))))))⟩)
      refine ⟨_, _, _, rfl, (by walk_at "hp"), (by walk_at "sc"), (by walk_at "sc"), (by walk_at "sc"), fun d4 o4 d4a d4b s4 => ?_⟩
      with_reducible refine Rd.name (Rd.seq (Rd.ifS (Rd.test (Rd.op (Rd.var (by walk_at "vr") (Rd.c (Rd.eqS (by walk_at "vr") (Rd.bl ?_))))))))
      refine Rd.ite (fun h0 => ?_) (fun h0 => ?_)
      · try simp only [decide_eq_true_eq, Bool.not_eq_true', decide_eq_false_iff_not, Bool.not_eq_true, Bool.not_eq_eq_eq_not, Bool.not_true, Bool.not_false] at h0
        with_reducible refine Rd.asg (Rd.tup (Rd.cons (Rd.op (Rd.var (by walk_at "vr") (Rd.c (Rd.ixT (by walk_at "hpt") (by walk_at "vr") (Rd.cons (Rd.op (Rd.var (by walk_at "vr") (Rd.c (Rd.ixT (by walk_at "hpt") (by walk_at "vr") ?_)))))))))))
        with_reducible refine Rd.nil (Rd.laid (by walk_at "ll") ?_)
        intro p1 np1
        with_reducible refine Rd.name (Rd.seq (Rd.ifS (Rd.test (Rd.op (Rd.var (by walk_at "vr") (Rd.c (Rd.eqS (by walk_at "vr") (Rd.bl ?_))))))))
        refine Rd.ite (fun h1 => ?_) (fun h1 => ?_)
        · try simp only [decide_eq_true_eq, Bool.not_eq_true', decide_eq_false_iff_not, Bool.not_eq_true, Bool.not_eq_eq_eq_not, Bool.not_true, Bool.not_false] at h1
          with_reducible refine Rd.asg (Rd.var (by walk_at "vr") (Rd.name (Rd.seq (Rd.ifS (Rd.or (Rd.not (Rd.tb (Rd.call (Rd.cons (Rd.var (by walk_at "vr") (Rd.cons ?_)))))))))))
          with_reducible refine Rd.var (by walk_at "vr") (Rd.nil ?_)
          refine ⟨_, _, _, _, _, _, rfl, (by walk_at "hp"), (by walk_at "hp"), (by walk_at "sc"), (by walk_at "sc"), (by walk_at "sc"), (by walk_at "sc"), fun H5 S5 => ?_⟩
          with_reducible refine Rd.bl (Rd.iteF (by walk_at "bF") (Rd.not (Rd.tb (Rd.call (Rd.cons (Rd.var (by walk_at "vr") (Rd.cons (Rd.var (by walk_at "vr") (Rd.nil ?_)))))))))
          refine ⟨_, _, _, _, _, _, rfl, (by walk_at "hp"), (by walk_at "hp"), (by walk_at "sc"), (by walk_at "sc"), (by walk_at "sc"), (by walk_at "sc"), fun H6 S6 => ?_⟩
          with_reducible refine Rd.bl (Rd.iteF (by walk_at "bF") (Rd.next (Rd.seq (Rd.ifS (Rd.not (Rd.tb (Rd.call (Rd.cons (Rd.var (by walk_at "vr") (Rd.cons (Rd.var (by walk_at "vr") ?_)))))))))))
          with_reducible refine Rd.nil ?_
          refine ⟨_, _, _, _, _, _, rfl, (by walk_at "hp"), (by walk_at "hp"), (by walk_at "sc"), (by walk_at "sc"), (by walk_at "sc"), (by walk_at "sc"), fun H7 S7 => ?_⟩
          with_reducible refine Rd.bl (Rd.iteF (by walk_at "bF") (Rd.next (Rd.ifS (Rd.not (Rd.tb (Rd.call (Rd.cons (Rd.var (by walk_at "vr") (Rd.cons (Rd.tup (Rd.cons ?_)))))))))))
          with_reducible refine Rd.op (Rd.var (by walk_at "vr") (Rd.c (Rd.ixT (by walk_at "hpt") (by walk_at "vr") (Rd.cons (Rd.op (Rd.op (Rd.var (by walk_at "vr") (Rd.c (Rd.ixT (by walk_at "hpt") (by walk_at "vr") (Rd.c (Rd.i0 ?_)))))))))))
          with_reducible refine Rd.nil (Rd.laid (by walk_at "ll") ?_)
          intro p2 np2
          with_reducible refine Rd.nil ?_
          refine ⟨_, _, _, _, _, _, rfl, (by walk_at "hp"), (by walk_at "hp"), (by walk_at "sc"), (by walk_at "sc"), (by walk_at "sc"), (by walk_at "sc"), fun H8 S8 => ?_⟩
          with_reducible refine Rd.bl (Rd.iteF (by walk_at "bF") (Rd.next ?_))
          exact ⟨_, _, _, _, _, rfl, (by walk_at "frm")⟩
        · try simp only [decide_eq_true_eq, Bool.not_eq_true', decide_eq_false_iff_not, Bool.not_eq_true, Bool.not_eq_eq_eq_not, Bool.not_true, Bool.not_false, Int.not_lt, Int.not_le, Decidable.not_not] at h1
          with_reducible refine Rd.next (Rd.seq (Rd.ifS (Rd.or (Rd.not (Rd.tb (Rd.call (Rd.cons (Rd.var (by walk_at "vr") (Rd.cons (Rd.var (by walk_at "vr") (Rd.nil ?_)))))))))))
          refine ⟨_, _, _, _, _, _, rfl, (by walk_at "hp"), (by walk_at "hp"), (by walk_at "sc"), (by walk_at "sc"), (by walk_at "sc"), (by walk_at "sc"), fun H9 S9 => ?_⟩
          with_reducible refine Rd.bl (Rd.iteF (by walk_at "bF") (Rd.not (Rd.tb (Rd.call (Rd.cons (Rd.var (by walk_at "vr") (Rd.cons (Rd.var (by walk_at "vr") (Rd.nil ?_)))))))))
          refine ⟨_, _, _, _, _, _, rfl, (by walk_at "hp"), (by walk_at "hp"), (by walk_at "sc"), (by walk_at "sc"), (by walk_at "sc"), (by walk_at "sc"), fun H10 S10 => ?_⟩
          with_reducible refine Rd.bl (Rd.iteF (by walk_at "bF") (Rd.next (Rd.seq (Rd.ifS (Rd.not (Rd.tb (Rd.call (Rd.cons (Rd.var (by walk_at "vr") (Rd.cons (Rd.var (by walk_at "vr") ?_)))))))))))
          with_reducible refine Rd.nil ?_
          refine ⟨_, _, _, _, _, _, rfl, (by walk_at "hp"), (by walk_at "hp"), (by walk_at "sc"), (by walk_at "sc"), (by walk_at "sc"), (by walk_at "sc"), fun H11 S11 => ?_⟩
          with_reducible refine Rd.bl (Rd.iteF (by walk_at "bF") (Rd.next (Rd.ifS (Rd.not (Rd.tb (Rd.call (Rd.cons (Rd.var (by walk_at "vr") (Rd.cons (Rd.tup (Rd.cons ?_)))))))))))
          with_reducible refine Rd.op (Rd.var (by walk_at "vr") (Rd.c (Rd.ixT (by walk_at "hpt") (by walk_at "vr") (Rd.cons (Rd.op (Rd.op (Rd.var (by walk_at "vr") (Rd.c (Rd.ixT (by walk_at "hpt") (by walk_at "vr") (Rd.c (Rd.i0 ?_)))))))))))
          with_reducible refine Rd.nil (Rd.laid (by walk_at "ll") ?_)
          intro p2 np2
          with_reducible refine Rd.nil ?_
          refine ⟨_, _, _, _, _, _, rfl, (by walk_at "hp"), (by walk_at "hp"), (by walk_at "sc"), (by walk_at "sc"), (by walk_at "sc"), (by walk_at "sc"), fun H12 S12 => ?_⟩
          with_reducible refine Rd.bl (Rd.iteF (by walk_at "bF") (Rd.next ?_))
          exact ⟨_, _, _, _, _, rfl, (by walk_at "frm")⟩
      · try simp only [decide_eq_true_eq, Bool.not_eq_true', decide_eq_false_iff_not, Bool.not_eq_true, Bool.not_eq_eq_eq_not, Bool.not_true, Bool.not_false, Int.not_lt, Int.not_le, Decidable.not_not] at h0
        with_reducible refine Rd.next (Rd.seq (Rd.ifS (Rd.test (Rd.op (Rd.var (by walk_at "vr") (Rd.c (Rd.eqS (by walk_at "vr") (Rd.bl ?_))))))))
        refine Rd.ite (fun h1 => ?_) (fun h1 => ?_)
        · try simp only [decide_eq_true_eq, Bool.not_eq_true', decide_eq_false_iff_not, Bool.not_eq_true, Bool.not_eq_eq_eq_not, Bool.not_true, Bool.not_false] at h1
          with_reducible refine Rd.asg (Rd.var (by walk_at "vr") (Rd.name (Rd.seq (Rd.ifS (Rd.or (Rd.not (Rd.tb (Rd.call (Rd.cons (Rd.var (by walk_at "vr") (Rd.cons ?_)))))))))))
          with_reducible refine Rd.var (by walk_at "vr") (Rd.nil ?_)
          refine ⟨_, _, _, _, _, _, rfl, (by walk_at "hp"), (by walk_at "hp"), (by walk_at "sc"), (by walk_at "sc"), (by walk_at "sc"), (by walk_at "sc"), fun H13 S13 => ?_⟩
          with_reducible refine Rd.bl (Rd.iteF (by walk_at "bF") (Rd.not (Rd.tb (Rd.call (Rd.cons (Rd.var (by walk_at "vr") (Rd.cons (Rd.var (by walk_at "vr") (Rd.nil ?_)))))))))
          refine ⟨_, _, _, _, _, _, rfl, (by walk_at "hp"), (by walk_at "hp"), (by walk_at "sc"), (by walk_at "sc"), (by walk_at "sc"), (by walk_at "sc"), fun H14 S14 => ?_⟩
          with_reducible refine Rd.bl (Rd.iteF (by walk_at "bF") (Rd.next (Rd.seq (Rd.ifS (Rd.not (Rd.tb (Rd.call (Rd.cons (Rd.var (by walk_at "vr") (Rd.cons (Rd.var (by walk_at "vr") ?_)))))))))))
          with_reducible refine Rd.nil ?_
          refine ⟨_, _, _, _, _, _, rfl, (by walk_at "hp"), (by walk_at "hp"), (by walk_at "sc"), (by walk_at "sc"), (by walk_at "sc"), (by walk_at "sc"), fun H15 S15 => ?_⟩
          with_reducible refine Rd.bl (Rd.iteF (by walk_at "bF") (Rd.next (Rd.ifS (Rd.not (Rd.tb (Rd.call (Rd.cons (Rd.var (by walk_at "vr") (Rd.cons (Rd.tup (Rd.cons ?_)))))))))))
          with_reducible refine Rd.op (Rd.var (by walk_at "vr") (Rd.c (Rd.ixT (by walk_at "hpt") (by walk_at "vr") (Rd.cons (Rd.op (Rd.op (Rd.var (by walk_at "vr") (Rd.c (Rd.ixT (by walk_at "hpt") (by walk_at "vr") (Rd.c (Rd.i0 ?_)))))))))))
          with_reducible refine Rd.nil (Rd.laid (by walk_at "ll") ?_)
          intro p2 np2
          with_reducible refine Rd.nil ?_
          refine ⟨_, _, _, _, _, _, rfl, (by walk_at "hp"), (by walk_at "hp"), (by walk_at "sc"), (by walk_at "sc"), (by walk_at "sc"), (by walk_at "sc"), fun H16 S16 => ?_⟩
          with_reducible refine Rd.bl (Rd.iteF (by walk_at "bF") (Rd.next ?_))
          exact ⟨_, _, _, _, _, rfl, (by walk_at "frm")⟩
        · try simp only [decide_eq_true_eq, Bool.not_eq_true', decide_eq_false_iff_not, Bool.not_eq_true, Bool.not_eq_eq_eq_not, Bool.not_true, Bool.not_false, Int.not_lt, Int.not_le, Decidable.not_not] at h1
          with_reducible refine Rd.next (Rd.seq (Rd.ifS (Rd.or (Rd.not (Rd.tb (Rd.call (Rd.cons (Rd.var (by walk_at "vr") (Rd.cons (Rd.var (by walk_at "vr") (Rd.nil ?_)))))))))))
          refine ⟨_, _, _, _, _, _, rfl, (by walk_at "hp"), (by walk_at "hp"), (by walk_at "sc"), (by walk_at "sc"), (by walk_at "sc"), (by walk_at "sc"), fun H17 S17 => ?_⟩
          with_reducible refine Rd.bl (Rd.iteF (by walk_at "bF") (Rd.not (Rd.tb (Rd.call (Rd.cons (Rd.var (by walk_at "vr") (Rd.cons (Rd.var (by walk_at "vr") (Rd.nil ?_)))))))))
          refine ⟨_, _, _, _, _, _, rfl, (by walk_at "hp"), (by walk_at "hp"), (by walk_at "sc"), (by walk_at "sc"), (by walk_at "sc"), (by walk_at "sc"), fun H18 S18 => ?_⟩
          with_reducible refine Rd.bl (Rd.iteF (by walk_at "bF") (Rd.next (Rd.seq (Rd.ifS (Rd.not (Rd.tb (Rd.call (Rd.cons (Rd.var (by walk_at "vr") (Rd.cons (Rd.var (by walk_at "vr") ?_)))))))))))
          with_reducible refine Rd.nil ?_
          refine ⟨_, _, _, _, _, _, rfl, (by walk_at "hp"), (by walk_at "hp"), (by walk_at "sc"), (by walk_at "sc"), (by walk_at "sc"), (by walk_at "sc"), fun H19 S19 => ?_⟩
          with_reducible refine Rd.bl (Rd.iteF (by walk_at "bF") (Rd.next (Rd.ifS (Rd.not (Rd.tb (Rd.call (Rd.cons (Rd.var (by walk_at "vr") (Rd.cons (Rd.tup (Rd.cons ?_)))))))))))
          with_reducible refine Rd.op (Rd.var (by walk_at "vr") (Rd.c (Rd.ixT (by walk_at "hpt") (by walk_at "vr") (Rd.cons (Rd.op (Rd.op (Rd.var (by walk_at "vr") (Rd.c (Rd.ixT (by walk_at "hpt") (by walk_at "vr") (Rd.c (Rd.i0 ?_)))))))))))
          with_reducible refine Rd.nil (Rd.laid (by walk_at "ll") ?_)
          intro p2 np2
          with_reducible refine Rd.nil ?_
          refine ⟨_, _, _, _, _, _, rfl, (by walk_at "hp"), (by walk_at "hp"), (by walk_at "sc"), (by walk_at "sc"), (by walk_at "sc"), (by walk_at "sc"), fun H20 S20 => ?_⟩
          with_reducible refine Rd.bl (Rd.iteF (by walk_at "bF") (Rd.next ?_))
          exact ⟨_, _, _, _, _, rfl, (by walk_at "frm")⟩
    · subst es
      with_reducible refine Rd.ret (Rd.c ?_)
      exact k _
end
theorem all_mk {l : PySem.W.OpenLaw} {w : World} {K : PySem.W.Frag} {h : Heap} {mg : Str → Option Value} {fa f_is_whole f_is_whole_from f_is_size f_check_size f_Formu__initu_ f_form_at f_Formu__callu_ f_Formu__equ_ f_place_of f_Formu__ltu_ f_Formu__leu_ f_Formu__gtu_ f_Formu__geu_ f_l_source f_l_draw f_l_form f_l_compared f_law c_Form : Addr} (X : K.In h) (G : h.Ns mainGlobals mg) (hfa : mg "law" = some (.ref fa))
    {od_is_whole an_is_whole : Option Addr} {sl_is_whole : Array (Option Value)} {oc_is_whole kV_is_whole dc_is_whole pm_is_whole cd_is_whole ct_is_whole : Value}
    {od_is_whole_from an_is_whole_from : Option Addr} {sl_is_whole_from : Array (Option Value)} {oc_is_whole_from kV_is_whole_from dc_is_whole_from pm_is_whole_from cd_is_whole_from ct_is_whole_from : Value}
    {od_is_size an_is_size : Option Addr} {sl_is_size : Array (Option Value)} {oc_is_size kV_is_size dc_is_size pm_is_size cd_is_size ct_is_size : Value}
    {od_check_size an_check_size : Option Addr} {sl_check_size : Array (Option Value)} {oc_check_size kV_check_size dc_check_size pm_check_size cd_check_size ct_check_size : Value}
    {od_Formu__initu_ an_Formu__initu_ : Option Addr} {sl_Formu__initu_ : Array (Option Value)} {oc_Formu__initu_ kV_Formu__initu_ dc_Formu__initu_ pm_Formu__initu_ cd_Formu__initu_ ct_Formu__initu_ : Value}
    {od_form_at an_form_at : Option Addr} {sl_form_at : Array (Option Value)} {oc_form_at kV_form_at dc_form_at pm_form_at cd_form_at ct_form_at : Value}
    {od_Formu__callu_ an_Formu__callu_ : Option Addr} {sl_Formu__callu_ : Array (Option Value)} {oc_Formu__callu_ kV_Formu__callu_ dc_Formu__callu_ pm_Formu__callu_ cd_Formu__callu_ ct_Formu__callu_ : Value}
    {od_Formu__equ_ an_Formu__equ_ : Option Addr} {sl_Formu__equ_ : Array (Option Value)} {oc_Formu__equ_ kV_Formu__equ_ dc_Formu__equ_ pm_Formu__equ_ cd_Formu__equ_ ct_Formu__equ_ : Value}
    {od_place_of an_place_of : Option Addr} {sl_place_of : Array (Option Value)} {oc_place_of kV_place_of dc_place_of pm_place_of cd_place_of ct_place_of : Value}
    {od_Formu__ltu_ an_Formu__ltu_ : Option Addr} {sl_Formu__ltu_ : Array (Option Value)} {oc_Formu__ltu_ kV_Formu__ltu_ dc_Formu__ltu_ pm_Formu__ltu_ cd_Formu__ltu_ ct_Formu__ltu_ : Value}
    {od_Formu__leu_ an_Formu__leu_ : Option Addr} {sl_Formu__leu_ : Array (Option Value)} {oc_Formu__leu_ kV_Formu__leu_ dc_Formu__leu_ pm_Formu__leu_ cd_Formu__leu_ ct_Formu__leu_ : Value}
    {od_Formu__gtu_ an_Formu__gtu_ : Option Addr} {sl_Formu__gtu_ : Array (Option Value)} {oc_Formu__gtu_ kV_Formu__gtu_ dc_Formu__gtu_ pm_Formu__gtu_ cd_Formu__gtu_ ct_Formu__gtu_ : Value}
    {od_Formu__geu_ an_Formu__geu_ : Option Addr} {sl_Formu__geu_ : Array (Option Value)} {oc_Formu__geu_ kV_Formu__geu_ dc_Formu__geu_ pm_Formu__geu_ cd_Formu__geu_ ct_Formu__geu_ : Value}
    {od_l_source an_l_source : Option Addr} {sl_l_source : Array (Option Value)} {oc_l_source kV_l_source dc_l_source pm_l_source cd_l_source ct_l_source : Value}
    {od_l_draw an_l_draw : Option Addr} {sl_l_draw : Array (Option Value)} {oc_l_draw kV_l_draw dc_l_draw pm_l_draw cd_l_draw ct_l_draw : Value}
    {od_l_form an_l_form : Option Addr} {sl_l_form : Array (Option Value)} {oc_l_form kV_l_form dc_l_form pm_l_form cd_l_form ct_l_form : Value}
    {od_l_compared an_l_compared : Option Addr} {sl_l_compared : Array (Option Value)} {oc_l_compared kV_l_compared dc_l_compared pm_l_compared cd_l_compared ct_l_compared : Value}
    {od_law an_law : Option Addr} {sl_law : Array (Option Value)} {oc_law kV_law dc_law pm_law cd_law ct_law : Value}
    {t_GREATEST_SIZE : Tok}
    (h_n_abs : PySem.W.nsIn K mainGlobals "abs" = some none)
    (h_n_bool : PySem.W.nsIn K mainGlobals "bool" = some none)
    (h_n_int : PySem.W.nsIn K mainGlobals "int" = some none)
    (h_n_isinstance : PySem.W.nsIn K mainGlobals "isinstance" = some none)
    (h_n_len : PySem.W.nsIn K mainGlobals "len" = some none)
    (h_n_max : PySem.W.nsIn K mainGlobals "max" = some none)
    (h_n_min : PySem.W.nsIn K mainGlobals "min" = some none)
    (h_n_range : PySem.W.nsIn K mainGlobals "range" = some none)
    (h_m_GREATEST_SIZE : PySem.W.nsIn K mainGlobals "GREATEST_SIZE" = some (some (.int (1000000000000000000000000000000) t_GREATEST_SIZE)))
    (h_m_Form : PySem.W.nsIn K mainGlobals "Form" = some (some (.ref c_Form)))
    (h_n_Form_slope : PySem.W.findIn K (.ref c_Form) "slope" = some none)
    (h_n_Form_base : PySem.W.findIn K (.ref c_Form) "base" = some none)
    (h_m_is_whole : PySem.W.nsIn K mainGlobals "is_whole" = some (some (.ref f_is_whole)))
    (h_m_is_whole_from : PySem.W.nsIn K mainGlobals "is_whole_from" = some (some (.ref f_is_whole_from)))
    (h_m_is_size : PySem.W.nsIn K mainGlobals "is_size" = some (some (.ref f_is_size)))
    (h_m_check_size : PySem.W.nsIn K mainGlobals "check_size" = some (some (.ref f_check_size)))
    (h_m_form_at : PySem.W.nsIn K mainGlobals "form_at" = some (some (.ref f_form_at)))
    (h_m_place_of : PySem.W.nsIn K mainGlobals "place_of" = some (some (.ref f_place_of)))
    (h_m_l_source : PySem.W.nsIn K mainGlobals "_law_source" = some (some (.ref f_l_source)))
    (h_m_l_draw : PySem.W.nsIn K mainGlobals "_law_draw" = some (some (.ref f_l_draw)))
    (h_m_l_form : PySem.W.nsIn K mainGlobals "_law_form" = some (some (.ref f_l_form)))
    (h_m_l_compared : PySem.W.nsIn K mainGlobals "_law_compared" = some (some (.ref f_l_compared)))
    (h_m_law : PySem.W.nsIn K mainGlobals "law" = some (some (.ref f_law)))
    (h_in_Form : PySem.W.findIn K (.ref c_Form) "__init__" = some (some (.ref f_Formu__initu_)))
    (h_a_Formu__callu_ : PySem.W.findIn K (.ref c_Form) "__call__" = some (some (.ref f_Formu__callu_)))
    (h_a_Formu__equ_ : PySem.W.findIn K (.ref c_Form) "__eq__" = some (some (.ref f_Formu__equ_)))
    (h_a_Formu__ltu_ : PySem.W.findIn K (.ref c_Form) "__lt__" = some (some (.ref f_Formu__ltu_)))
    (h_a_Formu__leu_ : PySem.W.findIn K (.ref c_Form) "__le__" = some (some (.ref f_Formu__leu_)))
    (h_a_Formu__gtu_ : PySem.W.findIn K (.ref c_Form) "__gt__" = some (some (.ref f_Formu__gtu_)))
    (h_a_Formu__geu_ : PySem.W.findIn K (.ref c_Form) "__ge__" = some (some (.ref f_Formu__geu_)))
    (h_l_is_whole : K.lookup f_is_whole = some ⟨oc_is_whole, od_is_whole, .func (PySem.W.fnOf "is_whole" "is_whole" (defArgs s_is_whole) (defBody s_is_whole) (defScope s_is_whole) .none kV_is_whole dc_is_whole pm_is_whole an_is_whole cd_is_whole ct_is_whole), sl_is_whole⟩)
    (h_l_is_whole_from : K.lookup f_is_whole_from = some ⟨oc_is_whole_from, od_is_whole_from, .func (PySem.W.fnOf "is_whole_from" "is_whole_from" (defArgs s_is_whole_from) (defBody s_is_whole_from) (defScope s_is_whole_from) .none kV_is_whole_from dc_is_whole_from pm_is_whole_from an_is_whole_from cd_is_whole_from ct_is_whole_from), sl_is_whole_from⟩)
    (h_l_is_size : K.lookup f_is_size = some ⟨oc_is_size, od_is_size, .func (PySem.W.fnOf "is_size" "is_size" (defArgs s_is_size) (defBody s_is_size) (defScope s_is_size) .none kV_is_size dc_is_size pm_is_size an_is_size cd_is_size ct_is_size), sl_is_size⟩)
    (h_l_check_size : K.lookup f_check_size = some ⟨oc_check_size, od_check_size, .func (PySem.W.fnOf "check_size" "check_size" (defArgs s_check_size) (defBody s_check_size) (defScope s_check_size) .none kV_check_size dc_check_size pm_check_size an_check_size cd_check_size ct_check_size), sl_check_size⟩)
    (h_l_Formu__initu_ : K.lookup f_Formu__initu_ = some ⟨oc_Formu__initu_, od_Formu__initu_, .func (PySem.W.fnOf "__init__" "Form.__init__" (defArgs s_Formu__initu_) (defBody s_Formu__initu_) (defScope s_Formu__initu_) .none kV_Formu__initu_ dc_Formu__initu_ pm_Formu__initu_ an_Formu__initu_ cd_Formu__initu_ ct_Formu__initu_), sl_Formu__initu_⟩)
    (h_l_form_at : K.lookup f_form_at = some ⟨oc_form_at, od_form_at, .func (PySem.W.fnOf "form_at" "form_at" (defArgs s_form_at) (defBody s_form_at) (defScope s_form_at) .none kV_form_at dc_form_at pm_form_at an_form_at cd_form_at ct_form_at), sl_form_at⟩)
    (h_l_Formu__callu_ : K.lookup f_Formu__callu_ = some ⟨oc_Formu__callu_, od_Formu__callu_, .func (PySem.W.fnOf "__call__" "Form.__call__" (defArgs s_Formu__callu_) (defBody s_Formu__callu_) (defScope s_Formu__callu_) .none kV_Formu__callu_ dc_Formu__callu_ pm_Formu__callu_ an_Formu__callu_ cd_Formu__callu_ ct_Formu__callu_), sl_Formu__callu_⟩)
    (h_l_Formu__equ_ : K.lookup f_Formu__equ_ = some ⟨oc_Formu__equ_, od_Formu__equ_, .func (PySem.W.fnOf "__eq__" "Form.__eq__" (defArgs s_Formu__equ_) (defBody s_Formu__equ_) (defScope s_Formu__equ_) .none kV_Formu__equ_ dc_Formu__equ_ pm_Formu__equ_ an_Formu__equ_ cd_Formu__equ_ ct_Formu__equ_), sl_Formu__equ_⟩)
    (h_l_place_of : K.lookup f_place_of = some ⟨oc_place_of, od_place_of, .func (PySem.W.fnOf "place_of" "place_of" (defArgs s_place_of) (defBody s_place_of) (defScope s_place_of) .none kV_place_of dc_place_of pm_place_of an_place_of cd_place_of ct_place_of), sl_place_of⟩)
    (h_l_Formu__ltu_ : K.lookup f_Formu__ltu_ = some ⟨oc_Formu__ltu_, od_Formu__ltu_, .func (PySem.W.fnOf "__lt__" "Form.__lt__" (defArgs s_Formu__ltu_) (defBody s_Formu__ltu_) (defScope s_Formu__ltu_) .none kV_Formu__ltu_ dc_Formu__ltu_ pm_Formu__ltu_ an_Formu__ltu_ cd_Formu__ltu_ ct_Formu__ltu_), sl_Formu__ltu_⟩)
    (h_l_Formu__leu_ : K.lookup f_Formu__leu_ = some ⟨oc_Formu__leu_, od_Formu__leu_, .func (PySem.W.fnOf "__le__" "Form.__le__" (defArgs s_Formu__leu_) (defBody s_Formu__leu_) (defScope s_Formu__leu_) .none kV_Formu__leu_ dc_Formu__leu_ pm_Formu__leu_ an_Formu__leu_ cd_Formu__leu_ ct_Formu__leu_), sl_Formu__leu_⟩)
    (h_l_Formu__gtu_ : K.lookup f_Formu__gtu_ = some ⟨oc_Formu__gtu_, od_Formu__gtu_, .func (PySem.W.fnOf "__gt__" "Form.__gt__" (defArgs s_Formu__gtu_) (defBody s_Formu__gtu_) (defScope s_Formu__gtu_) .none kV_Formu__gtu_ dc_Formu__gtu_ pm_Formu__gtu_ an_Formu__gtu_ cd_Formu__gtu_ ct_Formu__gtu_), sl_Formu__gtu_⟩)
    (h_l_Formu__geu_ : K.lookup f_Formu__geu_ = some ⟨oc_Formu__geu_, od_Formu__geu_, .func (PySem.W.fnOf "__ge__" "Form.__ge__" (defArgs s_Formu__geu_) (defBody s_Formu__geu_) (defScope s_Formu__geu_) .none kV_Formu__geu_ dc_Formu__geu_ pm_Formu__geu_ an_Formu__geu_ cd_Formu__geu_ ct_Formu__geu_), sl_Formu__geu_⟩)
    (h_l_l_source : K.lookup f_l_source = some ⟨oc_l_source, od_l_source, .func (PySem.W.fnOf "_law_source" "_law_source" (defArgs s_l_source) (defBody s_l_source) (defScope s_l_source) .none kV_l_source dc_l_source pm_l_source an_l_source cd_l_source ct_l_source), sl_l_source⟩)
    (h_l_l_draw : K.lookup f_l_draw = some ⟨oc_l_draw, od_l_draw, .func (PySem.W.fnOf "_law_draw" "_law_draw" (defArgs s_l_draw) (defBody s_l_draw) (defScope s_l_draw) .none kV_l_draw dc_l_draw pm_l_draw an_l_draw cd_l_draw ct_l_draw), sl_l_draw⟩)
    (h_l_l_form : K.lookup f_l_form = some ⟨oc_l_form, od_l_form, .func (PySem.W.fnOf "_law_form" "_law_form" (defArgs s_l_form) (defBody s_l_form) (defScope s_l_form) .none kV_l_form dc_l_form pm_l_form an_l_form cd_l_form ct_l_form), sl_l_form⟩)
    (h_l_l_compared : K.lookup f_l_compared = some ⟨oc_l_compared, od_l_compared, .func (PySem.W.fnOf "_law_compared" "_law_compared" (defArgs s_l_compared) (defBody s_l_compared) (defScope s_l_compared) .none kV_l_compared dc_l_compared pm_l_compared an_l_compared cd_l_compared ct_l_compared), sl_l_compared⟩)
    (h_l_law : K.lookup f_law = some ⟨oc_law, od_law, .func (PySem.W.fnOf "law" "law" (defArgs s_law) (defBody s_law) (defScope s_law) .none kV_law dc_law pm_law an_law cd_law ct_law), sl_law⟩)
    (h_pg_Form : PySem.W.plainGet K c_Form Str.empty = true)
    (h_hd_Form : PySem.W.hasDictIn K c_Form = true)
    (h_po_Form : PySem.W.plainOver K c_Form = true)
    (h_sa_Form : PySem.W.findIn K (.ref c_Form) "__setattr__" = some (some (.builtin "object.__setattr__")))
    (h_mk_Form : PySem.W.makesIn K c_Form = true)
    (h_ii_Form : PySem.W.isFn K (.ref f_Formu__initu_) = true)
    (h_kp_Form : PySem.W.keepIn K (.ref c_Form) = true)
    (h_ha_Form : PySem.W.findIn K (.ref c_Form) "__class__" = some (some (.builtin "object.__class__")))
    (h_mo_Form : PySem.W.mroIn K c_Form (.type "object") = some true)
    (h_hn_Form : PySem.W.specialIn K (.builtin "object.__class__") "__get__" = some (some (.builtin "getset_descriptor.__get__")))
    (h_htk_Form : PySem.W.takesIn K (.builtin "object.__class__") = some true)
    (h_kt_Form_Form : PySem.W.kitOne K (.ref c_Form) (.ref c_Form) = some true)
    (h_kt_int_Form : PySem.W.kitOne K (.type "int") (.ref c_Form) = some false)
    (h_c_is_whole : PySem.W.codeIn K cd_is_whole "is_whole" = true)
    (h_k_is_whole : PySem.W.keepIn K (.ref f_is_whole) = true)
    (h_c_is_whole_from : PySem.W.codeIn K cd_is_whole_from "is_whole_from" = true)
    (h_k_is_whole_from : PySem.W.keepIn K (.ref f_is_whole_from) = true)
    (h_c_is_size : PySem.W.codeIn K cd_is_size "is_size" = true)
    (h_k_is_size : PySem.W.keepIn K (.ref f_is_size) = true)
    (h_c_check_size : PySem.W.codeIn K cd_check_size "check_size" = true)
    (h_k_check_size : PySem.W.keepIn K (.ref f_check_size) = true)
    (h_c_Formu__initu_ : PySem.W.codeIn K cd_Formu__initu_ "Form.__init__" = true)
    (h_k_Formu__initu_ : PySem.W.keepIn K (.ref f_Formu__initu_) = true)
    (h_c_form_at : PySem.W.codeIn K cd_form_at "form_at" = true)
    (h_k_form_at : PySem.W.keepIn K (.ref f_form_at) = true)
    (h_c_Formu__callu_ : PySem.W.codeIn K cd_Formu__callu_ "Form.__call__" = true)
    (h_k_Formu__callu_ : PySem.W.keepIn K (.ref f_Formu__callu_) = true)
    (h_c_Formu__equ_ : PySem.W.codeIn K cd_Formu__equ_ "Form.__eq__" = true)
    (h_k_Formu__equ_ : PySem.W.keepIn K (.ref f_Formu__equ_) = true)
    (h_c_place_of : PySem.W.codeIn K cd_place_of "place_of" = true)
    (h_k_place_of : PySem.W.keepIn K (.ref f_place_of) = true)
    (h_c_Formu__ltu_ : PySem.W.codeIn K cd_Formu__ltu_ "Form.__lt__" = true)
    (h_k_Formu__ltu_ : PySem.W.keepIn K (.ref f_Formu__ltu_) = true)
    (h_c_Formu__leu_ : PySem.W.codeIn K cd_Formu__leu_ "Form.__le__" = true)
    (h_k_Formu__leu_ : PySem.W.keepIn K (.ref f_Formu__leu_) = true)
    (h_c_Formu__gtu_ : PySem.W.codeIn K cd_Formu__gtu_ "Form.__gt__" = true)
    (h_k_Formu__gtu_ : PySem.W.keepIn K (.ref f_Formu__gtu_) = true)
    (h_c_Formu__geu_ : PySem.W.codeIn K cd_Formu__geu_ "Form.__ge__" = true)
    (h_k_Formu__geu_ : PySem.W.keepIn K (.ref f_Formu__geu_) = true)
    (h_c_l_source : PySem.W.codeIn K cd_l_source "_law_source" = true)
    (h_k_l_source : PySem.W.keepIn K (.ref f_l_source) = true)
    (h_c_l_draw : PySem.W.codeIn K cd_l_draw "_law_draw" = true)
    (h_k_l_draw : PySem.W.keepIn K (.ref f_l_draw) = true)
    (h_c_l_form : PySem.W.codeIn K cd_l_form "_law_form" = true)
    (h_k_l_form : PySem.W.keepIn K (.ref f_l_form) = true)
    (h_c_l_compared : PySem.W.codeIn K cd_l_compared "_law_compared" = true)
    (h_k_l_compared : PySem.W.keepIn K (.ref f_l_compared) = true)
    (h_c_law : PySem.W.codeIn K cd_law "law" = true)
    (h_k_law : PySem.W.keepIn K (.ref f_law) = true)
    (h_i_Formu__callu_ : PySem.W.isFn K (.ref f_Formu__callu_) = true)
    (h_fi_Formu__callu_ : PySem.W.fnIn K f_Formu__callu_ = true)
    (h_i_Formu__equ_ : PySem.W.isFn K (.ref f_Formu__equ_) = true)
    (h_ne_Formu__equ_ : PySem.W.findIn K (.ref c_Form) "__ne__" = some (some (.builtin "object.__ne__")))
    (h_ob_Formu__equ_ : PySem.W.subIn K (.ref c_Form) (.type "object") = some true)
    (h_i_Formu__ltu_ : PySem.W.isFn K (.ref f_Formu__ltu_) = true)
    (h_i_Formu__leu_ : PySem.W.isFn K (.ref f_Formu__leu_) = true)
    (h_i_Formu__gtu_ : PySem.W.isFn K (.ref f_Formu__gtu_) = true)
    (h_i_Formu__geu_ : PySem.W.isFn K (.ref f_Formu__geu_) = true)
    (h_nf_Form_Form : PySem.W.notFirst K c_Form (.ref c_Form) = true)
    (h_nf_int_Form : PySem.W.notFirst K c_Form (.type "int") = true)
    : ∃ fd : FuncData, (∀ (s : Shared) (v : Value), BindsTo s fd ⟨[v], []⟩ [("_law_script", v)]) ∧ ∀ base : Heap, K.In base → base.Ns mainGlobals mg → FnOk l.prog w K mg base CX0 7 fa fd ["_law_script"] (sp_law K) := by
  have e := hfa.symm.trans (PySem.W.mg_of X G h_m_law)
  cases e
  have T : Txt K mg ⟨f_is_whole, (PySem.W.fnOf "is_whole" "is_whole" (defArgs s_is_whole) (defBody s_is_whole) (defScope s_is_whole) .none kV_is_whole dc_is_whole pm_is_whole an_is_whole cd_is_whole ct_is_whole), f_is_whole_from, (PySem.W.fnOf "is_whole_from" "is_whole_from" (defArgs s_is_whole_from) (defBody s_is_whole_from) (defScope s_is_whole_from) .none kV_is_whole_from dc_is_whole_from pm_is_whole_from an_is_whole_from cd_is_whole_from ct_is_whole_from), f_is_size, (PySem.W.fnOf "is_size" "is_size" (defArgs s_is_size) (defBody s_is_size) (defScope s_is_size) .none kV_is_size dc_is_size pm_is_size an_is_size cd_is_size ct_is_size), f_check_size, (PySem.W.fnOf "check_size" "check_size" (defArgs s_check_size) (defBody s_check_size) (defScope s_check_size) .none kV_check_size dc_check_size pm_check_size an_check_size cd_check_size ct_check_size), f_Formu__initu_, (PySem.W.fnOf "__init__" "Form.__init__" (defArgs s_Formu__initu_) (defBody s_Formu__initu_) (defScope s_Formu__initu_) .none kV_Formu__initu_ dc_Formu__initu_ pm_Formu__initu_ an_Formu__initu_ cd_Formu__initu_ ct_Formu__initu_), f_form_at, (PySem.W.fnOf "form_at" "form_at" (defArgs s_form_at) (defBody s_form_at) (defScope s_form_at) .none kV_form_at dc_form_at pm_form_at an_form_at cd_form_at ct_form_at), f_Formu__callu_, (PySem.W.fnOf "__call__" "Form.__call__" (defArgs s_Formu__callu_) (defBody s_Formu__callu_) (defScope s_Formu__callu_) .none kV_Formu__callu_ dc_Formu__callu_ pm_Formu__callu_ an_Formu__callu_ cd_Formu__callu_ ct_Formu__callu_), f_Formu__equ_, (PySem.W.fnOf "__eq__" "Form.__eq__" (defArgs s_Formu__equ_) (defBody s_Formu__equ_) (defScope s_Formu__equ_) .none kV_Formu__equ_ dc_Formu__equ_ pm_Formu__equ_ an_Formu__equ_ cd_Formu__equ_ ct_Formu__equ_), f_place_of, (PySem.W.fnOf "place_of" "place_of" (defArgs s_place_of) (defBody s_place_of) (defScope s_place_of) .none kV_place_of dc_place_of pm_place_of an_place_of cd_place_of ct_place_of), f_Formu__ltu_, (PySem.W.fnOf "__lt__" "Form.__lt__" (defArgs s_Formu__ltu_) (defBody s_Formu__ltu_) (defScope s_Formu__ltu_) .none kV_Formu__ltu_ dc_Formu__ltu_ pm_Formu__ltu_ an_Formu__ltu_ cd_Formu__ltu_ ct_Formu__ltu_), f_Formu__leu_, (PySem.W.fnOf "__le__" "Form.__le__" (defArgs s_Formu__leu_) (defBody s_Formu__leu_) (defScope s_Formu__leu_) .none kV_Formu__leu_ dc_Formu__leu_ pm_Formu__leu_ an_Formu__leu_ cd_Formu__leu_ ct_Formu__leu_), f_Formu__gtu_, (PySem.W.fnOf "__gt__" "Form.__gt__" (defArgs s_Formu__gtu_) (defBody s_Formu__gtu_) (defScope s_Formu__gtu_) .none kV_Formu__gtu_ dc_Formu__gtu_ pm_Formu__gtu_ an_Formu__gtu_ cd_Formu__gtu_ ct_Formu__gtu_), f_Formu__geu_, (PySem.W.fnOf "__ge__" "Form.__ge__" (defArgs s_Formu__geu_) (defBody s_Formu__geu_) (defScope s_Formu__geu_) .none kV_Formu__geu_ dc_Formu__geu_ pm_Formu__geu_ an_Formu__geu_ cd_Formu__geu_ ct_Formu__geu_), f_l_source, (PySem.W.fnOf "_law_source" "_law_source" (defArgs s_l_source) (defBody s_l_source) (defScope s_l_source) .none kV_l_source dc_l_source pm_l_source an_l_source cd_l_source ct_l_source), f_l_draw, (PySem.W.fnOf "_law_draw" "_law_draw" (defArgs s_l_draw) (defBody s_l_draw) (defScope s_l_draw) .none kV_l_draw dc_l_draw pm_l_draw an_l_draw cd_l_draw ct_l_draw), f_l_form, (PySem.W.fnOf "_law_form" "_law_form" (defArgs s_l_form) (defBody s_l_form) (defScope s_l_form) .none kV_l_form dc_l_form pm_l_form an_l_form cd_l_form ct_l_form), f_l_compared, (PySem.W.fnOf "_law_compared" "_law_compared" (defArgs s_l_compared) (defBody s_l_compared) (defScope s_l_compared) .none kV_l_compared dc_l_compared pm_l_compared an_l_compared cd_l_compared ct_l_compared), fa, (PySem.W.fnOf "law" "law" (defArgs s_law) (defBody s_law) (defScope s_law) .none kV_law dc_law pm_law an_law cd_law ct_law), c_Form, t_GREATEST_SIZE⟩ := {
    n_abs := PySem.W.mg_none_of X G h_n_abs,
    n_bool := PySem.W.mg_none_of X G h_n_bool,
    n_int := PySem.W.mg_none_of X G h_n_int,
    n_isinstance := PySem.W.mg_none_of X G h_n_isinstance,
    n_len := PySem.W.mg_none_of X G h_n_len,
    n_max := PySem.W.mg_none_of X G h_n_max,
    n_min := PySem.W.mg_none_of X G h_n_min,
    n_range := PySem.W.mg_none_of X G h_n_range,
    m_GREATEST_SIZE := PySem.W.mg_of X G h_m_GREATEST_SIZE,
    m_Form := PySem.W.mg_of X G h_m_Form,
    k_Form := ⟨h_pg_Form, h_hd_Form, h_po_Form, h_sa_Form⟩,
    n_Form_slope := h_n_Form_slope,
    n_Form_base := h_n_Form_base,
    K_Form := ⟨h_mk_Form, h_in_Form, h_ii_Form, h_kp_Form⟩,
    i_Form := ⟨h_ha_Form, h_hn_Form, h_htk_Form, h_mo_Form⟩,
    kt_Form_Form := h_kt_Form_Form,
    kt_int_Form := h_kt_int_Form,
    m_is_whole := PySem.W.mg_of X G h_m_is_whole,
    F_is_whole := fun_mk (st := s_is_whole) h_l_is_whole h_c_is_whole h_k_is_whole,
    b_is_whole := (fun_mk (st := s_is_whole) h_l_is_whole h_c_is_whole h_k_is_whole).binds fun _ _ _ _ _ _ us hl => match us, hl with | [_], _ => rfl,
    m_is_whole_from := PySem.W.mg_of X G h_m_is_whole_from,
    F_is_whole_from := fun_mk (st := s_is_whole_from) h_l_is_whole_from h_c_is_whole_from h_k_is_whole_from,
    b_is_whole_from := (fun_mk (st := s_is_whole_from) h_l_is_whole_from h_c_is_whole_from h_k_is_whole_from).binds fun _ _ _ _ _ _ us hl => match us, hl with | [_, _, _], _ => rfl,
    m_is_size := PySem.W.mg_of X G h_m_is_size,
    F_is_size := fun_mk (st := s_is_size) h_l_is_size h_c_is_size h_k_is_size,
    b_is_size := (fun_mk (st := s_is_size) h_l_is_size h_c_is_size h_k_is_size).binds fun _ _ _ _ _ _ us hl => match us, hl with | [_], _ => rfl,
    m_check_size := PySem.W.mg_of X G h_m_check_size,
    F_check_size := fun_mk (st := s_check_size) h_l_check_size h_c_check_size h_k_check_size,
    b_check_size := (fun_mk (st := s_check_size) h_l_check_size h_c_check_size h_k_check_size).binds fun _ _ _ _ _ _ us hl => match us, hl with | [_], _ => rfl,
    F_Formu__initu_ := fun_mk (st := s_Formu__initu_) h_l_Formu__initu_ h_c_Formu__initu_ h_k_Formu__initu_,
    b_Formu__initu_ := (fun_mk (st := s_Formu__initu_) h_l_Formu__initu_ h_c_Formu__initu_ h_k_Formu__initu_).binds fun _ _ _ _ _ _ us hl => match us, hl with | [_, _, _], _ => rfl,
    m_form_at := PySem.W.mg_of X G h_m_form_at,
    F_form_at := fun_mk (st := s_form_at) h_l_form_at h_c_form_at h_k_form_at,
    b_form_at := (fun_mk (st := s_form_at) h_l_form_at h_c_form_at h_k_form_at).binds fun _ _ _ _ _ _ us hl => match us, hl with | [_, _], _ => rfl,
    F_Formu__callu_ := fun_mk (st := s_Formu__callu_) h_l_Formu__callu_ h_c_Formu__callu_ h_k_Formu__callu_,
    b_Formu__callu_ := (fun_mk (st := s_Formu__callu_) h_l_Formu__callu_ h_c_Formu__callu_ h_k_Formu__callu_).binds fun _ _ _ _ _ _ us hl => match us, hl with | [_, _], _ => rfl,
    F_Formu__equ_ := fun_mk (st := s_Formu__equ_) h_l_Formu__equ_ h_c_Formu__equ_ h_k_Formu__equ_,
    b_Formu__equ_ := (fun_mk (st := s_Formu__equ_) h_l_Formu__equ_ h_c_Formu__equ_ h_k_Formu__equ_).binds fun _ _ _ _ _ _ us hl => match us, hl with | [_, _], _ => rfl,
    m_place_of := PySem.W.mg_of X G h_m_place_of,
    F_place_of := fun_mk (st := s_place_of) h_l_place_of h_c_place_of h_k_place_of,
    b_place_of := (fun_mk (st := s_place_of) h_l_place_of h_c_place_of h_k_place_of).binds fun _ _ _ _ _ _ us hl => match us, hl with | [_], _ => rfl,
    F_Formu__ltu_ := fun_mk (st := s_Formu__ltu_) h_l_Formu__ltu_ h_c_Formu__ltu_ h_k_Formu__ltu_,
    b_Formu__ltu_ := (fun_mk (st := s_Formu__ltu_) h_l_Formu__ltu_ h_c_Formu__ltu_ h_k_Formu__ltu_).binds fun _ _ _ _ _ _ us hl => match us, hl with | [_, _], _ => rfl,
    F_Formu__leu_ := fun_mk (st := s_Formu__leu_) h_l_Formu__leu_ h_c_Formu__leu_ h_k_Formu__leu_,
    b_Formu__leu_ := (fun_mk (st := s_Formu__leu_) h_l_Formu__leu_ h_c_Formu__leu_ h_k_Formu__leu_).binds fun _ _ _ _ _ _ us hl => match us, hl with | [_, _], _ => rfl,
    F_Formu__gtu_ := fun_mk (st := s_Formu__gtu_) h_l_Formu__gtu_ h_c_Formu__gtu_ h_k_Formu__gtu_,
    b_Formu__gtu_ := (fun_mk (st := s_Formu__gtu_) h_l_Formu__gtu_ h_c_Formu__gtu_ h_k_Formu__gtu_).binds fun _ _ _ _ _ _ us hl => match us, hl with | [_, _], _ => rfl,
    F_Formu__geu_ := fun_mk (st := s_Formu__geu_) h_l_Formu__geu_ h_c_Formu__geu_ h_k_Formu__geu_,
    b_Formu__geu_ := (fun_mk (st := s_Formu__geu_) h_l_Formu__geu_ h_c_Formu__geu_ h_k_Formu__geu_).binds fun _ _ _ _ _ _ us hl => match us, hl with | [_, _], _ => rfl,
    m_l_source := PySem.W.mg_of X G h_m_l_source,
    F_l_source := fun_mk (st := s_l_source) h_l_l_source h_c_l_source h_k_l_source,
    b_l_source := (fun_mk (st := s_l_source) h_l_l_source h_c_l_source h_k_l_source).binds fun _ _ _ _ _ _ us hl => match us, hl with | [_, _], _ => rfl,
    m_l_draw := PySem.W.mg_of X G h_m_l_draw,
    F_l_draw := fun_mk (st := s_l_draw) h_l_l_draw h_c_l_draw h_k_l_draw,
    b_l_draw := (fun_mk (st := s_l_draw) h_l_l_draw h_c_l_draw h_k_l_draw).binds fun _ _ _ _ _ _ us hl => match us, hl with | [_, _], _ => rfl,
    m_l_form := PySem.W.mg_of X G h_m_l_form,
    F_l_form := fun_mk (st := s_l_form) h_l_l_form h_c_l_form h_k_l_form,
    b_l_form := (fun_mk (st := s_l_form) h_l_l_form h_c_l_form h_k_l_form).binds fun _ _ _ _ _ _ us hl => match us, hl with | [_], _ => rfl,
    m_l_compared := PySem.W.mg_of X G h_m_l_compared,
    F_l_compared := fun_mk (st := s_l_compared) h_l_l_compared h_c_l_compared h_k_l_compared,
    b_l_compared := (fun_mk (st := s_l_compared) h_l_l_compared h_c_l_compared h_k_l_compared).binds fun _ _ _ _ _ _ us hl => match us, hl with | [_, _], _ => rfl,
    m_law := PySem.W.mg_of X G h_m_law,
    F_law := fun_mk (st := s_law) h_l_law h_c_law h_k_law,
    b_law := (fun_mk (st := s_law) h_l_law h_c_law h_k_law).binds fun _ _ _ _ _ _ us hl => match us, hl with | [_], _ => rfl,
    O_Formu__callu__C := ⟨h_a_Formu__callu_, h_i_Formu__callu_, h_fi_Formu__callu_⟩,
    O_Formu__equ__1 := ⟨h_a_Formu__equ_, h_i_Formu__equ_⟩,
    O_Formu__equ__N := ⟨h_ne_Formu__equ_, h_a_Formu__equ_, h_i_Formu__equ_, h_ob_Formu__equ_⟩,
    O_Formu__ltu__1 := ⟨h_a_Formu__ltu_, h_i_Formu__ltu_⟩,
    O_Formu__leu__1 := ⟨h_a_Formu__leu_, h_i_Formu__leu_⟩,
    O_Formu__gtu__1 := ⟨h_a_Formu__gtu_, h_i_Formu__gtu_⟩,
    O_Formu__geu__1 := ⟨h_a_Formu__geu_, h_i_Formu__geu_⟩,
    nf_Form_Form := h_nf_Form_Form,
    nf_int_Form := h_nf_int_Form }
  exact ⟨_, fun s v => .of_eq rfl, fun base _ _ => ok_law T⟩
theorem walk {l : PySem.W.OpenLaw} {q : Program} {loose : List Str} {XP : (Str → Option Value) → Heap → Prop} {YP : World → Heap → Prop} {d : DefRec} {K : Params → PySem.W.Frag} (hn : l.most = some 63) (hdf : d.params.defaults = [])
    (hY : ∀ (w : World) (h : Heap), YP w h → (K w.params).In h)
    (F : ∀ (w : World) (mg : Str → Option Value) (fa : Addr) (h : Heap), (K w.params).In h → h.Ns mainGlobals mg → mg d.name = some (.ref fa) →
      ∃ fd : FuncData, (∀ (s : Shared) (u : Value), BindsTo s fd ⟨[u], []⟩ [("_law_script", u)]) ∧ ∀ base : Heap, (K w.params).In base → base.Ns mainGlobals mg → FnOk l.prog w (K w.params) mg base CX0 7 fa fd ["_law_script"] (sp_law (K w.params))) :
    PySem.W.WalkO q loose XP YP l.row.toRowW d [] (fun f vs => PySem.call f vs) :=
  L2.walk_of (n := 63) (k := 7) (x := "_law_script") (CX := fun _ => CX0) (sp := fun w => sp_law (K w.params)) hn (by decide) hdf ⟨rfl, by decide, by decide⟩ hY F (fun _ _ a ns hl _ hS => ⟨a, ns, rfl, hS, hl, fun _ => rfl⟩) fun _ _ _ _ _ z => z
end Pk02
open PySem PySem.W PyProof.Rows
set_option maxRecDepth 100000 in
set_option maxHeartbeats 0 in
theorem PySem.Challenge.cw_ringindexes_k02_forms_compared_holds : PySem.Challenge.rw_ringindexes_k02_forms_compared.Holds := by
  w_on; o_law; k_head; (case hw => w_witness2)
  k_fill
  refine Pk02.walk (l := PySem.Challenge.rw_ringindexes_k02_forms_compared) rfl rfl (fun w h Y => PySem.W.kIn_of Y) ?F
  case F =>
    intro w mg fa h KX G hmg
    refine' Pk02.all_mk KX G hmg ?h_n_abs ?h_n_bool ?h_n_int ?h_n_isinstance ?h_n_len ?h_n_max ?h_n_min ?h_n_range ?h_m_GREATEST_SIZE ?h_m_Form ?h_n_Form_slope ?h_n_Form_base ?h_m_is_whole ?h_m_is_whole_from ?h_m_is_size ?h_m_check_size ?h_m_form_at ?h_m_place_of ?h_m_l_source ?h_m_l_draw ?h_m_l_form ?h_m_l_compared ?h_m_law ?h_in_Form ?h_a_Formu__callu_ ?h_a_Formu__equ_ ?h_a_Formu__ltu_ ?h_a_Formu__leu_ ?h_a_Formu__gtu_ ?h_a_Formu__geu_ ?h_l_is_whole ?h_l_is_whole_from ?h_l_is_size ?h_l_check_size ?h_l_Formu__initu_ ?h_l_form_at ?h_l_Formu__callu_ ?h_l_Formu__equ_ ?h_l_place_of ?h_l_Formu__ltu_ ?h_l_Formu__leu_ ?h_l_Formu__gtu_ ?h_l_Formu__geu_ ?h_l_l_source ?h_l_l_draw ?h_l_l_form ?h_l_l_compared ?h_l_law ?h_pg_Form ?h_hd_Form ?h_po_Form ?h_sa_Form ?h_mk_Form ?h_ii_Form ?h_kp_Form ?h_ha_Form ?h_mo_Form ?h_hn_Form ?h_htk_Form ?h_kt_Form_Form ?h_kt_int_Form ?h_c_is_whole ?h_k_is_whole ?h_c_is_whole_from ?h_k_is_whole_from ?h_c_is_size ?h_k_is_size ?h_c_check_size ?h_k_check_size ?h_c_Formu__initu_ ?h_k_Formu__initu_ ?h_c_form_at ?h_k_form_at ?h_c_Formu__callu_ ?h_k_Formu__callu_ ?h_c_Formu__equ_ ?h_k_Formu__equ_ ?h_c_place_of ?h_k_place_of ?h_c_Formu__ltu_ ?h_k_Formu__ltu_ ?h_c_Formu__leu_ ?h_k_Formu__leu_ ?h_c_Formu__gtu_ ?h_k_Formu__gtu_ ?h_c_Formu__geu_ ?h_k_Formu__geu_ ?h_c_l_source ?h_k_l_source ?h_c_l_draw ?h_k_l_draw ?h_c_l_form ?h_k_l_form ?h_c_l_compared ?h_k_l_compared ?h_c_law ?h_k_law ?h_i_Formu__callu_ ?h_fi_Formu__callu_ ?h_i_Formu__equ_ ?h_ne_Formu__equ_ ?h_ob_Formu__equ_ ?h_i_Formu__ltu_ ?h_i_Formu__leu_ ?h_i_Formu__gtu_ ?h_i_Formu__geu_ ?h_nf_Form_Form ?h_nf_int_Form
    (case h_n_abs => k_is)
    (case h_n_bool => k_is)
    (case h_n_int => k_is)
    (case h_n_isinstance => k_is)
    (case h_n_len => k_is)
    (case h_n_max => k_is)
    (case h_n_min => k_is)
    (case h_n_range => k_is)
    (case h_m_GREATEST_SIZE => k_is)
    (case h_m_Form => k_is)
    (case h_n_Form_slope => k_is)
    (case h_n_Form_base => k_is)
    (case h_m_is_whole => k_is)
    (case h_m_is_whole_from => k_is)
    (case h_m_is_size => k_is)
    (case h_m_check_size => k_is)
    (case h_m_form_at => k_is)
    (case h_m_place_of => k_is)
    (case h_m_l_source => k_is)
    (case h_m_l_draw => k_is)
    (case h_m_l_form => k_is)
    (case h_m_l_compared => k_is)
    (case h_m_law => k_is)
    (case h_in_Form => k_is)
    (case h_a_Formu__callu_ => k_is)
    (case h_a_Formu__equ_ => k_is)
    (case h_a_Formu__ltu_ => k_is)
    (case h_a_Formu__leu_ => k_is)
    (case h_a_Formu__gtu_ => k_is)
    (case h_a_Formu__geu_ => k_is)
    (case h_l_is_whole => k_is)
    (case h_l_is_whole_from => k_is)
    (case h_l_is_size => k_is)
    (case h_l_check_size => k_is)
    (case h_l_Formu__initu_ => k_is)
    (case h_l_form_at => k_is)
    (case h_l_Formu__callu_ => k_is)
    (case h_l_Formu__equ_ => k_is)
    (case h_l_place_of => k_is)
    (case h_l_Formu__ltu_ => k_is)
    (case h_l_Formu__leu_ => k_is)
    (case h_l_Formu__gtu_ => k_is)
    (case h_l_Formu__geu_ => k_is)
    (case h_l_l_source => k_is)
    (case h_l_l_draw => k_is)
    (case h_l_l_form => k_is)
    (case h_l_l_compared => k_is)
    (case h_l_law => k_is)
    (case h_pg_Form => k_is)
    (case h_hd_Form => k_is)
    (case h_po_Form => k_is)
    (case h_sa_Form => k_is)
    (case h_mk_Form => k_is)
    (case h_ii_Form => k_is)
    (case h_kp_Form => k_is)
    (case h_ha_Form => k_is)
    (case h_mo_Form => k_is)
    (case h_hn_Form => k_is)
    (case h_htk_Form => k_is)
    (case h_kt_Form_Form => kit_is)
    (case h_kt_int_Form => kit_is)
    (case h_c_is_whole => k_is)
    (case h_k_is_whole => k_is)
    (case h_c_is_whole_from => k_is)
    (case h_k_is_whole_from => k_is)
    (case h_c_is_size => k_is)
    (case h_k_is_size => k_is)
    (case h_c_check_size => k_is)
    (case h_k_check_size => k_is)
    (case h_c_Formu__initu_ => k_is)
    (case h_k_Formu__initu_ => k_is)
    (case h_c_form_at => k_is)
    (case h_k_form_at => k_is)
    (case h_c_Formu__callu_ => k_is)
    (case h_k_Formu__callu_ => k_is)
    (case h_c_Formu__equ_ => k_is)
    (case h_k_Formu__equ_ => k_is)
    (case h_c_place_of => k_is)
    (case h_k_place_of => k_is)
    (case h_c_Formu__ltu_ => k_is)
    (case h_k_Formu__ltu_ => k_is)
    (case h_c_Formu__leu_ => k_is)
    (case h_k_Formu__leu_ => k_is)
    (case h_c_Formu__gtu_ => k_is)
    (case h_k_Formu__gtu_ => k_is)
    (case h_c_Formu__geu_ => k_is)
    (case h_k_Formu__geu_ => k_is)
    (case h_c_l_source => k_is)
    (case h_k_l_source => k_is)
    (case h_c_l_draw => k_is)
    (case h_k_l_draw => k_is)
    (case h_c_l_form => k_is)
    (case h_k_l_form => k_is)
    (case h_c_l_compared => k_is)
    (case h_k_l_compared => k_is)
    (case h_c_law => k_is)
    (case h_k_law => k_is)
    (case h_i_Formu__callu_ => k_is)
    (case h_fi_Formu__callu_ => k_is)
    (case h_i_Formu__equ_ => k_is)
    (case h_ne_Formu__equ_ => k_is)
    (case h_ob_Formu__equ_ => k_is)
    (case h_i_Formu__ltu_ => k_is)
    (case h_i_Formu__leu_ => k_is)
    (case h_i_Formu__gtu_ => k_is)
    (case h_i_Formu__geu_ => k_is)
    (case h_nf_Form_Form => k_is)
    (case h_nf_int_Form => k_is)
