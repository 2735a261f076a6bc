import PyProof.Rows.All
import Wide.All
import OpenK.AllK
import Wide.FinOn
import PyProof.EqAt
import PyProof.EqKinds
import PyProof.TupleCall
import PyProof.InstNe
import KE.RegKIsAll
import HandS.ForMost
import HandS.Wide
import HandS.IsInst
import HandS.OwnEq
import HandS.Star
import HandS.Property
import HandS.Defaults
import HandS.WordsExc
import HandS.ExcOwn
import HandS.TupLe
import HandS.SortKw
import KE.KMinBuiltin
import HandS.TryOnly
import HandS.ExcIs
import HandS.CallLocal
import HandS.Walk
import HandS.StrMore
import HandS.FStr
import HandS.NoneIn
import HandS.SetFor
import PyProof.StrLaws
import HandS.Small
import HandS.StrSplit
import HandS.MakeKwOnly
import HandS.More
import PySem.Challenge.RW_ringindexes_k07_whole_forms_and_signs
set_option Elab.async false
set_option linter.all false
set_option maxRecDepth 100000
set_option maxHeartbeats 40000000
/-! ## steps of readings: each lemma opens one construct -/
namespace Rd
open PySem PySem.Spec PyProof.Rows L2

section
variable {σ : L2.St} {H : Hp} {Q : VK} {D : Ends} {K : PySem.W.Frag}
theorem seq {t u : TS} (h : t { D with nx := u D } σ H) : tSeq t u D σ H := h
theorem next (h : D.nx σ H) : tNext D σ H := h
theorem drop {te : TE} (h : te σ H fun _ H1 => D.nx σ H1) : tDrop te D σ H := h
theorem ret {te : TE} (h : te σ H D.rt) : tRet te D σ H := h
theorem retN (h : D.rt .non H) : tRetN D σ H := h
theorem brk (h : D.bk σ H) : tBreak D σ H := h
theorem cont (h : D.ct σ H) : tCont D σ H := h
theorem ifS {c : TT} {t u : TS} (h : c σ H fun b H1 => if b = true then t D σ H1 else u D σ H1) : tIfS c t u D σ H := h
theorem asg {te : TE} {g : TG} (h : te σ H fun x H1 => g x σ H1 D.nx) : tAsg te g D σ H := h
theorem name {i : Nat} {v : V} {q : L2.St → Hp → Prop} (h : q (σ.set i (some v)) H) : gName i v σ H q := h
theorem par {i j : Nat} {ta : TA} (h : ta σ H fun vs H1 => ∃ v w, vs = [v, w] ∧ D.nx ((σ.set i (some v)).set j (some w)) H1) : tPar i j ta D σ H := h
theorem par2 {i j : Nat} {v w : V} (h : D.nx ((σ.set i (some v)).set j (some w)) H) : ∃ v' w', [v, w] = [v', w'] ∧ D.nx ((σ.set i (some v')).set j (some w')) H := ⟨v, w, rfl, h⟩
theorem var {i : Nat} {v : V} (e : σ[i]? = some (some v)) (h : Q v H) : tVar i σ H Q := ⟨v, e, h⟩
theorem c {v : V} (h : Q v H) : tC v σ H Q := h
theorem op {r : R2} {ta tb : TE} (h : ta σ H fun x H1 => tb σ H1 fun y H2 => r x y H2 Q) : tOp r ta tb σ H Q := h
theorem un {r : V → Hp → VK → Prop} {ta : TE} (h : ta σ H fun x H1 => r x H1 Q) : tUn r ta σ H Q := h
theorem i0 {g : Int → Int → V} {i j : Int} (h : Q (g i j) H) : rI0 g (.int i) (.int j) H Q := ⟨i, j, rfl, rfl, h⟩
theorem iC {C : Int → Int → Prop} {g : Int → Int → V} {i j : Int} (e : C i j) (h : Q (g i j) H) : rI C g (.int i) (.int j) H Q := ⟨i, j, rfl, rfl, e, h⟩
theorem iU {g : Int → V} {i : Int} (h : Q (g i) H) : rU g (.int i) H Q := ⟨i, rfl, h⟩
theorem eqS {x y : V} (e : scal x y = true) (h : Q (.bl (decide (x = y))) H) : rEq x y H Q := ⟨e, h⟩
theorem neS {x y : V} (e : scal x y = true) (h : Q (.bl (!decide (x = y))) H) : rNe x y H Q := ⟨e, h⟩
theorem addS {i j : Str} (e : i.length + j.length ≤ sizeLine) (h : Q (.str (i ++ j)) H) : ∃ a b, V.str i = .str a ∧ V.str j = .str b ∧ a.length + b.length ≤ sizeLine ∧ Q (.str (a ++ b)) H := ⟨i, j, rfl, rfl, e, h⟩
theorem isN {x : V} (h : Q (.bl (decide (x = .non))) H) : V.non = .non ∧ Q (.bl (decide (x = .non))) H := ⟨rfl, h⟩
theorem notN {x : V} (h : Q (.bl (!decide (x = .non))) H) : V.non = .non ∧ Q (.bl (!decide (x = .non))) H := ⟨rfl, h⟩
theorem chain {r r' : R2} {ta tb tc : TE} (h : ta σ H fun x H1 => tb σ H1 fun y H2 => r x y H2 fun z H3 => ∃ k, z = .bl k ∧ (if k = true then tc σ H3 fun w' H4 => r' y w' H4 Q else Q (.bl false) H3)) : tChain r r' ta tb tc σ H Q := h
theorem bl {k : Bool} {A : Bool → Prop} (h : A k) : ∃ c, V.bl k = .bl c ∧ A c := ⟨k, rfl, h⟩
theorem test {t : TE} {q : Bool → Hp → Prop} (h : t σ H fun x H' => ∃ k, x = .bl k ∧ q k H') : tTest t σ H q := h
theorem tb {t : TE} {q : Bool → Hp → Prop} (h : t σ H fun x H' => ∃ k, x = .bl k ∧ q k H') : tB t σ H q := h
theorem and {t u : TT} {q : Bool → Hp → Prop} (h : t σ H fun c H1 => if c = true then u σ H1 q else q false H1) : tAnd t u σ H q := h
theorem or {t u : TT} {q : Bool → Hp → Prop} (h : t σ H fun c H1 => if c = true then q true H1 else u σ H1 q) : tOr t u σ H q := h
theorem not {t : TT} {q : Bool → Hp → Prop} (h : t σ H fun c H1 => q (!c) H1) : tNot t σ H q := h
theorem andV {ta tb : TE} (h : ta σ H fun x H1 => ∃ c, x = .bl c ∧ if c = true then tb σ H1 Q else Q (.bl false) H1) : tAndV ta tb σ H Q := h
theorem orV {ta tb : TE} (h : ta σ H fun x H1 => ∃ c, x = .bl c ∧ if c = true then Q (.bl true) H1 else tb σ H1 Q) : tOrV ta tb σ H Q := h
theorem notV {ta : TE} (h : ta σ H fun x H1 => ∃ c, x = .bl c ∧ Q (.bl (!c)) H1) : tNotV ta σ H Q := h
theorem ifE {t : TT} {ta tb : TE} (h : t σ H fun c H1 => if c = true then ta σ H1 Q else tb σ H1 Q) : tIf t ta tb σ H Q := h
theorem nil {q : List V → Hp → Prop} (h : q [] H) : tNil σ H q := h
theorem cons {ta : TE} {tr : TA} {q : List V → Hp → Prop} (h : ta σ H fun x H1 => tr σ H1 fun xs H2 => q (x :: xs) H2) : tCons ta tr σ H q := h
theorem cB {r : List V → Hp → VK → Prop} {t : TA} (h : t σ H fun vs H1 => r vs H1 Q) : tCB r t σ H Q := h
theorem tup {t : TA} (h : t σ H fun xs H1 => xs.length ≤ sizeLine ∧ ∀ p, H1 p = none → Q (.ref p) (upd H1 p (.tup xs))) : tTup t σ H Q := h
theorem lst {t : TA} (h : t σ H fun xs H1 => xs.length ≤ sizeLine ∧ ∀ p, H1 p = none → Q (.ref p) (upd H1 p (.lst xs))) : tLst t σ H Q := h
theorem laid {xs : List V} {A : Addr → Prop} (e : xs.length ≤ 1000) (h : ∀ p, H p = none → A p) : xs.length ≤ sizeLine ∧ ∀ p, H p = none → A p := ⟨Nat.le_of_lt (small1000 e), h⟩
theorem call {sp : Sp} {dvs : List V} {E : XK} {t : TA} (h : t σ H fun vs H1 => sp (vs ++ dvs) H1 Q E) : tCall sp dvs E t σ H Q := h
theorem meth {C : Addr} {m : Str} {sp : Sp} {dvs : List V} {E : XK} {ta : TE} {t : TA} (h : ta σ H fun x H1 => ∃ a dx fs, x = .ref a ∧ H1 a = some (.ins C dx fs) ∧ fs.lookup m = none ∧ t σ H1 fun vs H2 => sp (x :: (vs ++ dvs)) H2 Q E) : tMeth C m sp dvs E ta t σ H Q := h
theorem meth2 {C a dx : Addr} {fs : List (Str × V)} {m : Str} {A : Prop} (e : H a = some (.ins C dx fs)) (l : fs.lookup m = none) (h : A) : ∃ a' dx fs, V.ref a = .ref a' ∧ H a' = some (.ins C dx fs) ∧ fs.lookup m = none ∧ A := ⟨a, dx, fs, rfl, e, l, h⟩
theorem make {C : Addr} {sp : Sp} {dvs : List V} {E : XK} {t : TA} (h : t σ H fun vs H1 => ∀ x dx, H1 x = none → H1 dx = none → dx ≠ x → sp (.ref x :: (vs ++ dvs)) (upd (upd H1 dx (.own x)) x (.ins C dx [])) (fun v H2 => v = .non ∧ Q (.ref x) H2) E) : tMake C sp dvs E t σ H Q := h
theorem fld {ta : TE} {f : Str} (h : ta σ H fun x H1 => ∃ a C dx fs v, x = .ref a ∧ H1 a = some (.ins C dx fs) ∧ Cls K C ∧ NoAttr K C f ∧ fs.lookup f = some v ∧ Q v H1) : tFld K ta f σ H Q := h
theorem fld2 {f : Str} {a C dx : Addr} {fs : List (Str × V)} {v : V} (e : H a = some (.ins C dx fs)) (k : Cls K C) (n : NoAttr K C f) (l : fs.lookup f = some v) (h : Q v H) :
    ∃ a' C' dx fs v, V.ref a = .ref a' ∧ H a' = some (.ins C' dx fs) ∧ Cls K C' ∧ NoAttr K C' f ∧ fs.lookup f = some v ∧ Q v H := ⟨a, C, dx, fs, v, rfl, e, k, n, l, h⟩
theorem sfld {ta tv : TE} {f : Str} (h : tv σ H fun y H1 => ta σ H1 fun x H2 => ∃ a C dx fs, x = .ref a ∧ H2 a = some (.ins C dx fs) ∧ Cls K C ∧ NoAttr K C f ∧ fs.length < 1000 ∧ D.nx σ (upd H2 a (.ins C dx (putF f y fs)))) : sFld K ta tv f D σ H := h
theorem gnil {q : L2.St → Hp → Prop} (h : q σ H) : gNil [] σ H q := ⟨rfl, h⟩
theorem gcons {t : TG} {u : TGs} {v : V} {r : List V} {q : L2.St → Hp → Prop} (h : t v σ H fun σ' H' => u r σ' H' q) : gCons t u (v :: r) σ H q := ⟨v, r, rfl, h⟩
theorem gtup {n : Nat} {t : TGs} {a : Addr} {xs : List V} {q : L2.St → Hp → Prop} (e : SqT K H a xs) (l : xs.length = n) (h : t xs σ H q) : gTup K n t (.ref a) σ H q := ⟨a, xs, rfl, e, l, h⟩
theorem fr {wi : TI} {g : TG} {tb : TS} (h : wi σ H fun J H1 => ∃ W : Nat → Nat → L2.St → Hp → Prop, (∃ m, W 0 m σ H1) ∧ ∀ i m σ H, W i m σ H →
    (J.stop i H ∧ D.nx σ H) ∨ (J.go i H ∧ ∃ N : L2.St → Hp → Prop, (∀ σ' H', N σ' H' → ∃ m', m' < m ∧ W (i + 1) m' σ' H') ∧ ∀ x H', J.yld i H x H' → g x σ H' fun σ2 H2 => tb { D with nx := N, ct := N, bk := D.nx } σ2 H2)) : tFor wi g tb D σ H := h
theorem rng1 {ta : TA} {R : It → Hp → Prop} (h : ta σ H fun vs H1 => ∃ j : Int, vs = [.int j] ∧ -(2 ^ 62) ≤ j ∧ j < 2 ^ 62 ∧ R (Itr 0 j.toNat) H1) : iRng1 ta σ H R := h
theorem prop {C : Addr} {sp : Sp} {dvs : List V} {E : XK} {ta : TE} (h : ta σ H fun x H1 => ∃ a dx fs, x = .ref a ∧ H1 a = some (.ins C dx fs) ∧ sp (.ref a :: dvs) H1 Q E) : tProp C sp dvs E ta σ H Q := h
theorem aug {i : Nat} {te : TE} {ti : TIp} {x : V} (e : σ[i]? = some (some x)) (h : te σ H fun y H1 => ti x y H1 fun z H2 => D.nx (σ.set i (some z)) H2) : tAug i te ti D σ H := ⟨x, e, h⟩
theorem ipI {f : Int → Int → Int} {i j : Int} (h : Q (.int (f i j)) H) : L2.ipI f (.int i) (.int j) H Q := ⟨i, j, rfl, rfl, h⟩
theorem ixL {a : Addr} {xs : List V} {i : Int} {v : V} (e : SqL K H a xs) (l : atI xs i = some v) (h : Q v H) : rIxL K (.ref a) (.int i) H Q := ⟨a, xs, i, v, rfl, rfl, e, l, h⟩
theorem ixT {a : Addr} {xs : List V} {i : Int} {v : V} (e : SqT K H a xs) (l : atI xs i = some v) (h : Q v H) : rIxT K (.ref a) (.int i) H Q := ⟨a, xs, i, v, rfl, rfl, e, l, h⟩
theorem setL {a : Addr} {xs : List V} {k : Int} {j : Nat} {v : V} {q : Hp → Prop} (e : H a = some (.lst xs)) (l : ixN xs.length k = some j) (h : q (upd H a (.lst (xs.set j v)))) : rSetL (.ref a) (.int k) v H q := ⟨a, xs, k, j, rfl, rfl, e, l, h⟩
theorem sub {to ti : TE} {t : TSet} {v : V} {q : L2.St → Hp → Prop} (h : to σ H fun o H1 => ti σ H1 fun i H2 => t o i v H2 fun H3 => q σ H3) : gSub to ti t v σ H q := h
theorem lenQ {a : Addr} {xs : List V} (e : SqL K H a xs ∨ SqT K H a xs) (h : Q (.int xs.length) H) : ∃ p ys, [V.ref a] = [.ref p] ∧ (SqL K H p ys ∨ SqT K H p ys) ∧ Q (.int ys.length) H := ⟨a, xs, rfl, e, h⟩
theorem absI {i : Int} (h : Q (.int (if i < 0 then -i else i)) H) : ∃ j, [V.int i] = [.int j] ∧ Q (.int (if j < 0 then -j else j)) H := ⟨i, rfl, h⟩
theorem intI {i : Int} (h : Q (.int i) H) : (∃ j, [V.int i] = [.int j] ∧ Q (.int j) H) ∨ ∃ k, [V.int i] = [.bl k] ∧ Q (.int (if k then 1 else 0)) H := .inl ⟨i, rfl, h⟩
theorem ite {c A B : Prop} [Decidable c] (h1 : c → A) (h2 : ¬ c → B) : if c then A else B := by
  by_cases h : c
  · rw [if_pos h]; exact h1 h
  · rw [if_neg h]; exact h2 h
theorem iteT {b : Bool} {A B : Prop} (e : b = true) (h : A) : if b = true then A else B := by rw [if_pos e]; exact h
theorem iteF {b : Bool} {A B : Prop} (e : b = false) (h : B) : if b = true then A else B := by rw [e]; exact h
theorem andB {c d : Bool} {t : TE} (h1 : ∀ Q' : VK, Q' (.bl d) H → t σ H Q') (h : Q (.bl (c && d)) H) : if c = true then t σ H Q else Q (.bl false) H := by
  cases c with
  | true => exact h1 Q h
  | false => exact h
theorem orB {c d : Bool} {t : TE} (h1 : ∀ Q' : VK, Q' (.bl d) H → t σ H Q') (h : Q (.bl (c || d)) H) : if c = true then Q (.bl true) H else t σ H Q := by
  cases c with
  | true => exact h
  | false => exact h1 Q h
end
theorem lput {f : Str} {v : V} {fs : List (Str × V)} {n : Nat} (h : fs.length + 1 < n) : (putF f v fs).length < n := Nat.lt_of_le_of_lt (by have := length_putF f v fs; omega) h
theorem lputs {f : Str} {v : V} {fs : List (Str × V)} {n k : Nat} (h : fs.length + (k + 1) < n) : (putF f v fs).length + k < n := Nat.lt_of_le_of_lt (by have := length_putF f v fs; omega) h
theorem ty_tup {K : PySem.W.Frag} {H : Hp} {a : Addr} {xs : List V} (e : H a = some (.tup xs)) : TyX K H (.ref a) (.type "tuple") := .base (.tup e)
theorem ty_lst {K : PySem.W.Frag} {H : Hp} {a : Addr} {xs : List V} (e : H a = some (.lst xs)) : TyX K H (.ref a) (.type "list") := .base (.lst e)
section
variable {K : PySem.W.Frag}
theorem kit_int_int : PySem.W.kitOne K (.type "int") (.type "int") = some true := kit_ty (by decide +kernel)
theorem kit_bool_int : PySem.W.kitOne K (.type "bool") (.type "int") = some true := kit_ty (by decide +kernel)
theorem kit_str_int : PySem.W.kitOne K (.type "str") (.type "int") = some false := kit_ty (by decide +kernel)
theorem kit_none_int : PySem.W.kitOne K (.type "NoneType") (.type "int") = some false := kit_ty (by decide +kernel)
theorem kit_tuple_int : PySem.W.kitOne K (.type "tuple") (.type "int") = some false := kit_ty (by decide +kernel)
theorem kit_list_int : PySem.W.kitOne K (.type "list") (.type "int") = some false := kit_ty (by decide +kernel)
theorem kit_dict_int : PySem.W.kitOne K (.type "dict") (.type "int") = some false := kit_ty (by decide +kernel)
theorem kit_int_bool : PySem.W.kitOne K (.type "int") (.type "bool") = some false := kit_ty (by decide +kernel)
theorem kit_bool_bool : PySem.W.kitOne K (.type "bool") (.type "bool") = some true := kit_ty (by decide +kernel)
theorem kit_str_bool : PySem.W.kitOne K (.type "str") (.type "bool") = some false := kit_ty (by decide +kernel)
theorem kit_str_str : PySem.W.kitOne K (.type "str") (.type "str") = some true := kit_ty (by decide +kernel)
theorem kit_int_str : PySem.W.kitOne K (.type "int") (.type "str") = some false := kit_ty (by decide +kernel)
end
end Rd


/-! ## the operators of own classes, as rules of the layer -/
namespace Own
open PySem PySem.Spec PyProof.Rows L2
section
variable {X : Cx} {pins : List (Addr × Obj)} {σ : L2.St} {H : Hp} {s : Shared}
/-- a value of the layer is never the sign of a declined operator -/
theorem not_declined {v : V} {u : Value} (r : RelV v u) : u ≠ .notImplemented := by
  intro e
  subst e
  cases v with
  | non => cases (show Value.notImplemented = Value.none from r)
  | bl b => cases (show Value.notImplemented = Value.bool b from r)
  | int i => obtain ⟨t, q⟩ := (show ∃ t, Value.notImplemented = Value.int i t from r); cases q
  | str i => obtain ⟨t, q⟩ := (show ∃ t, Value.notImplemented = Value.str i t from r); cases q
  | byt i => obtain ⟨t, q⟩ := (show ∃ t, Value.notImplemented = Value.bytes i t from r); cases q
  | flt i => obtain ⟨t, q⟩ := (show ∃ t, Value.notImplemented = Value.float i t from r); cases q
  | ref a => cases (show Value.notImplemented = Value.ref a from r)
  | ty n => cases (show Value.notImplemented = Value.type n from r)
theorem back {M : Model} {A : Around} {E : Value → Shared → Prop} {m : Sem Value} {Q : VK} (h : wpAny M A m (EP X pins σ Q) E s) : wpAny M A m (PySem.W.CmpBack (EP X pins σ Q)) E s :=
  wpAny_mono h (fun u s' q => by
    have n : u ≠ .notImplemented := by
      obtain ⟨z, H', I, r, _⟩ := q
      exact not_declined r
    cases u <;> first | exact q | exact absurd rfl n) fun _ _ e => e
/-- an instance as the library's rules ask for it -/
theorem inst {a C dx : Addr} {fs : List (Str × V)} (I : Inv X pins σ H s) (h : H a = some (.ins C dx fs)) : ∃ od, PySem.W.InstAt s.heap a (PySem.W.instObj C dx) C od := by
  obtain ⟨mA, J, _⟩ := ins_get I.hok h
  obtain ⟨od, J, _⟩ := J.look
  exact ⟨_, J⟩
/-- the type of any value, told without a step that matters -/
theorem typed {M : Model} {x : V} {u : Value} {t : Value} (I : Inv X pins σ H s) (r : RelV x u) (ty : TyX X.K H x t) : PySem.W.Looks M s.heap (typeOf u) t := by
  obtain ⟨P, Z, p, _⟩ := kit_of I r ty
  exact Z.ty M s.heap I.kIn p
end

/-- an own method behind an operator -/
structure Sp1 (K : PySem.W.Frag) (C : Addr) (m : Str) (f : Addr) : Prop where
  at_ : PySem.W.findIn K (.ref C) m = some (some (.ref f))
  fn : PySem.W.isFn K (.ref f) = true
/-- a two-place operator of an own class -/
structure Bin (K : PySem.W.Frag) (C f : Addr) (op : Operator) : Prop where
  first : PySem.W.selfFirst K C = true
  at_ : PySem.W.findIn K (.ref C) (PySem.dunder op.info.2) = some (some (.ref f))
  fn : PySem.W.isFn K (.ref f) = true
/-- .. beside a value of the built-in type T -/
structure BinT (K : PySem.W.Frag) (C f : Addr) (op : Operator) (T : String) : Prop where
  b : Bin K C f op
  r : ∃ rc, PySem.W.findIn K (.ref C) (dunderR op.info.2) = some rc ∧ (rc = none ∨ ∃ g : Addr, rc = some (.ref g))
  l1 : ∃ fo, PySem.W.findIn K (.type T) (PySem.dunder op.info.2) = some fo
  l2 : ∃ ro, PySem.W.findIn K (.type T) (dunderR op.info.2) = some ro
  sub : PySem.W.subIn K (.type T) (.ref C) = some false

def rSame (C : Addr) (sp : Sp) (E : XK) : R2 := fun x y H Q => ∃ a b dx dy fs gs, x = .ref a ∧ y = .ref b ∧ H a = some (.ins C dx fs) ∧ H b = some (.ins C dy gs) ∧ sp [.ref a, .ref b] H Q E
def rLeft (C : Addr) (T : String) (sp : Sp) (E : XK) : R2 := fun x y H Q => ∃ a dx fs, x = .ref a ∧ H a = some (.ins C dx fs) ∧ (∀ u, RelV y u → typeOf u = pure (.type T)) ∧ sp [.ref a, y] H Q E
def rCmp (K : PySem.W.Frag) (C : Addr) (sp : Sp) (E : XK) : R2 := fun x y H Q => ∃ a dx fs t, x = .ref a ∧ H a = some (.ins C dx fs) ∧ TyX K H y t ∧ PySem.W.notFirst K C t = true ∧ sp [.ref a, y] H Q E
def rOne (C : Addr) (sp : Sp) (E : XK) : V → Hp → VK → Prop := fun x H Q => ∃ a dx fs, x = .ref a ∧ H a = some (.ins C dx fs) ∧ sp [.ref a] H Q E

section
variable {X : Cx} {CX : CXT} {k : Nat} {f C : Addr} {fd : FuncData} {ps : List Str} {sp : Sp} {E : XK} {op : Operator} {cop : CmpOp} {T : String}
theorem run2 {pins : List (Addr × Obj)} {σ : L2.St} {H : Hp} {s : Shared} {Q : VK} {x y : V} {u v : Value} (F : FnOk X.prog X.w X.K X.mg X.base CX k f fd ps sp) (hr : Room k X.A) (hb : Binds X.K fd ps []) (hx : Passes CX X E)
    (I : Inv X pins σ H s) (rx : RelV x u) (ry : RelV y v) (h : sp [x, y] H Q E) : wpAny (model X.prog X.w) X.A (call (.ref f) [u, v]) (EP X pins σ Q) X.xe s :=
  run_fn (us := [u, v]) (vs := [x, y]) F hr hb .nil hx I (.cons rx (.cons ry .nil)) h
theorem opS (F : FnOk X.prog X.w X.K X.mg X.base CX k f fd ps sp) (hr : Room k X.A) (B : Bin X.K C f op) (hb : Binds X.K fd ps []) (hx : Passes CX X E) : OpR X (binaryOp op) (rSame C sp E) := by
  rintro pins s σ H x y u v Q I rx ry ⟨a, b, dx, dy, fs, gs, rfl, rfl, ha, hb', q⟩
  cases rx
  cases ry
  obtain ⟨od, J⟩ := inst I ha
  obtain ⟨od', J'⟩ := inst I hb'
  obtain ⟨m, hF⟩ := I.fr
  exact PySem.W.binop_K hF I.ok.mod.kin J J'.type B.first B.at_ B.fn (back (run2 (x := .ref a) (y := .ref b) F hr hb hx I rfl rfl q))
theorem opT (F : FnOk X.prog X.w X.K X.mg X.base CX k f fd ps sp) (hr : Room k X.A) (B : BinT X.K C f op T) (hb : Binds X.K fd ps []) (hx : Passes CX X E) : OpR X (binaryOp op) (rLeft C T sp E) := by
  rintro pins s σ H x y u v Q I rx ry ⟨a, dx, fs, rfl, ha, ty, q⟩
  cases rx
  obtain ⟨od, J⟩ := inst I ha
  obtain ⟨m, hF⟩ := I.fr
  obtain ⟨⟨b1, b2, b3⟩, ⟨rc, r1, r2⟩, ⟨fo, l1⟩, ⟨ro, l2⟩, sb⟩ := B
  exact PySem.W.ksp_binT hF I.ok.mod.kin J (ty _ ry) b1 b2 b3 r1 r2 l1 l2 sb (back (run2 (x := .ref a) F hr hb hx I rfl ry q))
theorem iopT (F : FnOk X.prog X.w X.K X.mg X.base CX k f fd ps sp) (hr : Room k X.A) (h1 : PySem.W.selfFirst X.K C = true) (h2 : Sp1 X.K C (dunderI op.info.2) f) (hb : Binds X.K fd ps []) (hx : Passes CX X E) :
    OpR X (inplaceOp op) (fun x y H Q => ∃ a dx fs, x = .ref a ∧ H a = some (.ins C dx fs) ∧ sp [.ref a, y] H Q E) := by
  rintro pins s σ H x y u v Q I rx ry ⟨a, dx, fs, rfl, ha, q⟩
  cases rx
  obtain ⟨od, J⟩ := inst I ha
  obtain ⟨m, hF⟩ := I.fr
  exact PySem.W.ksp_inplace hF I.ok.mod.kin J h1 h2.at_ h2.fn (back (run2 (x := .ref a) F hr hb hx I rfl ry q))
theorem neg (F : FnOk X.prog X.w X.K X.mg X.base CX k f fd ps sp) (hr : Room k X.A) (B : Sp1 X.K C "__neg__" f) (hb : Binds X.K fd ps []) (hx : Passes CX X E) : UnR X (unaryOp .USub) (rOne C sp E) := by
  rintro pins s σ H x u Q I rx ⟨a, dx, fs, rfl, ha, q⟩
  cases rx
  obtain ⟨od, J⟩ := inst I ha
  obtain ⟨m, hF⟩ := I.fr
  exact PySem.W.ksp_neg hF I.ok.mod.kin J B.at_ B.fn (run_fn (us := [.ref a]) (vs := [.ref a]) F hr hb .nil hx I (.cons rfl .nil) q)
theorem cmp (F : FnOk X.prog X.w X.K X.mg X.base CX k f fd ps sp) (hr : Room k X.A) (B : Sp1 X.K C (cmpInfo cop).2.1 f) (hb : Binds X.K fd ps []) (hx : Passes CX X E)
    (ho : ∀ a b, compareOp cop a b = richCompare cop a b := by intro _ _; rfl) : OpR X (compareOp cop) (rCmp X.K C sp E) := by
  rintro pins s σ H x y u v Q I rx ry ⟨a, dx, fs, t, rfl, ha, ty, nf, q⟩
  cases rx
  obtain ⟨od, J⟩ := inst I ha
  obtain ⟨m, hF⟩ := I.fr
  rw [ho]
  exact PySem.W.cmp_K hr.units0 hF I.ok.mod.kin J (typed I ry ty) nf B.at_ B.fn (back (run2 (x := .ref a) F hr hb hx I rfl ry q))
/-- o[i] by the own __getitem__ -/
theorem item (F : FnOk X.prog X.w X.K X.mg X.base CX k f fd ps sp) (hr : Room k X.A) (B : Sp1 X.K C "__getitem__" f) (hq : PySem.W.noSeq X.K C = true) (hb : Binds X.K fd ps []) (hx : Passes CX X E) :
    OpR X getItem (fun x y H Q => ∃ a dx fs, x = .ref a ∧ H a = some (.ins C dx fs) ∧ sp [.ref a, y] H Q E) := by
  rintro pins s σ H x y u v Q I rx ry ⟨a, dx, fs, rfl, ha, q⟩
  cases rx
  obtain ⟨od, J⟩ := inst I ha
  obtain ⟨m, hF⟩ := I.fr
  exact PySem.W.getItem_K hF I.ok.mod.kin J hq B.at_ B.fn (run2 (x := .ref a) F hr hb hx I rfl ry q)
/-- x in o by the own __contains__, which gives a bool -/
theorem isin (F : FnOk X.prog X.w X.K X.mg X.base CX k f fd ps sp) (hr : Room k X.A) (B : Sp1 X.K C "__contains__" f) (hb : Binds X.K fd ps []) (hx : Passes CX X E) :
    OpR X (compareOp .In) (fun x y H Q => ∃ a dx fs, y = .ref a ∧ H a = some (.ins C dx fs) ∧ sp [.ref a, x] H (fun v H' => ∃ b, v = .bl b ∧ Q (.bl b) H') E) := by
  rintro pins s σ H x y u v Q I rx ry ⟨a, dx, fs, rfl, ha, q⟩
  cases ry
  obtain ⟨od, J⟩ := inst I ha
  obtain ⟨m, hF⟩ := I.fr
  refine PySem.W.in_K hF I.ok.mod.kin J B.at_ B.fn (wpAny_mono (run2 (x := .ref a) F hr hb hx I rfl rx q) (fun r s' hq => ?_) fun _ _ e => e)
  obtain ⟨z, H', I', rz, b, rfl, q'⟩ := hq
  cases rz
  exact wpAny_truthy_bool ⟨.bl b, H', I', rfl, q'⟩
/-- truth by the own __bool__ -/
theorem truth (F : FnOk X.prog X.w X.K X.mg X.base CX k f fd ps sp) (hr : Room k X.A) (B : Sp1 X.K C "__bool__" f) (hb : Binds X.K fd ps []) (hx : Passes CX X E) :
    TruR X (fun x H Q => ∃ a dx fs, x = .ref a ∧ H a = some (.ins C dx fs) ∧ sp [.ref a] H (fun v H' => ∃ b, v = .bl b ∧ Q b H') E) := by
  rintro pins s σ H x u Q I rx ⟨a, dx, fs, rfl, ha, q⟩
  cases rx
  obtain ⟨od, J⟩ := inst I ha
  obtain ⟨m, hF⟩ := I.fr
  refine PySem.W.truthy_K hF I.ok.mod.kin J B.at_ B.fn (wpAny_mono (run_fn (us := [.ref a]) (vs := [.ref a]) F hr hb .nil hx I (.cons rfl .nil) q) (fun r s' hq => ?_) fun _ _ e => e)
  obtain ⟨z, H', I', rz, b, rfl, q'⟩ := hq
  cases rz
  exact ⟨H', I', q'⟩
end
end Own
/-! ## int op own: the reflected operator; != by the inherited rule over the own ==; len; a call of an instance -/
namespace Own
open PySem PySem.Spec PyProof.Rows
section
variable {prog : Program} {w : World} {A : Around} {E : Value → Shared → Prop} {s : Shared} {K : PySem.W.Frag} {x C dx f : Addr} {od : Option Obj}
theorem decl_add {i : Int} {t : Tok} {Q : Shared → Prop} (h : s.heap.get? x = some (PySem.W.instObj C dx)) (hq : Q s) :
    wpAny (model prog w) A (Builtin.«int.__add__» ⟨[.int i t, .ref x], []⟩) (fun fin s' => ∃ v, fin = .done (.ret v) ∧ v = .notImplemented ∧ Q s') E s := by
  obtain ⟨hp, g, d, tk, os⟩ := s
  wp_walk using wpAny_load h
  exact ⟨_, rfl, rfl, hq⟩
theorem decl_sub {i : Int} {t : Tok} {Q : Shared → Prop} (h : s.heap.get? x = some (PySem.W.instObj C dx)) (hq : Q s) :
    wpAny (model prog w) A (Builtin.«int.__sub__» ⟨[.int i t, .ref x], []⟩) (fun fin s' => ∃ v, fin = .done (.ret v) ∧ v = .notImplemented ∧ Q s') E s := by
  obtain ⟨hp, g, d, tk, os⟩ := s
  wp_walk using wpAny_load h
  exact ⟨_, rfl, rfl, hq⟩
theorem decl_mul {i : Int} {t : Tok} {Q : Shared → Prop} (h : s.heap.get? x = some (PySem.W.instObj C dx)) (hq : Q s) :
    wpAny (model prog w) A (Builtin.«int.__mul__» ⟨[.int i t, .ref x], []⟩) (fun fin s' => ∃ v, fin = .done (.ret v) ∧ v = .notImplemented ∧ Q s') E s := by
  obtain ⟨hp, g, d, tk, os⟩ := s
  wp_walk using wpAny_load h
  exact ⟨_, rfl, rfl, hq⟩
end
end Own
namespace Own
open PySem PySem.Spec PyProof.Rows
section
variable {prog : Program} {w : World} {A : Around} {E : Value → Shared → Prop} {s : Shared} {K : PySem.W.Frag} {x C dx f f0 : Addr} {od : Option Obj} {op : Operator} {id : String}
/-- an int declines an operator beside an instance, then the instance's reflected one is asked -/
theorem binR {i : Int} {t : Tok} {Q : Value → Shared → Prop} (KX : K.In s.heap) (I : PySem.W.InstAt s.heap x (PySem.W.instObj C dx) C od) (hc : PySem.W.selfFirst K C = true)
    (h0 : PySem.W.findIn K (.ref C) (PySem.dunder op.info.2) = some (some (.ref f0))) (h1 : PySem.W.findIn K (.ref C) (dunderR op.info.2) = some (some (.ref f))) (hf : PySem.W.isFn K (.ref f) = true)
    (hsub : PySem.W.subIn K (.ref C) (.type "int") = some false) (hfill : fillsNumberSlot (.type "int") op.info.2 = pure true) (slot : Slot "int" (PySem.dunder op.info.2) id)
    (decl : wpAny (model prog w) A (call (.builtin id) [.int i t, .ref x]) (fun v s' => v = .notImplemented ∧ s'.heap = s.heap ∧ s'.gens = s.gens ∧ s'.drawn = s.drawn ∧ s'.os = s.os ∧ s'.toks = s.toks) E s)
    (h : wpAny (model prog w) A (call (.ref f) [.ref x, .int i t]) (PySem.W.CmpBack Q) E s) : wpAny (model prog w) A (binaryOp op (.int i t) (.ref x)) Q E s := by
  obtain ⟨cd, rest, hcd, hm⟩ := PySem.W.ksp_first hc
  rcases hi : op.info with ⟨sym, nm⟩
  rw [hi] at h0 h1 hfill slot
  dsimp only at h0 h1 hfill slot
  have two := PySem.W.ksp_try KX I h1 hf h
  obtain ⟨hh, g, d, tt, os⟩ := s
  have L1 : PySem.W.Looks (model prog w) hh (typeOf (.ref x)) (.ref C) := I.type
  have L3 : PySem.W.Looks (model prog w) hh (fillsNumberSlot (.ref C) nm) true := PySem.W.fills_K KX hcd hm h0
  have L5 : PySem.W.Looks (model prog w) hh (isSubtype (.ref C) (.type "int")) false := PySem.W.looks_subIn KX hsub
  have hne : (Value.type "int" == Value.ref C) = false := Bool.eq_false_iff.mpr fun q => by cases beq_iff_eq.mp q
  have hpy : numberSlotInPython (.type "int") nm = pure false := rfl
  have one : wpAny (model prog w) A (tryMethod (.int i t) (PySem.dunder nm) (.ref x)) (fun r s' => r = none ∧ s'.heap = hh ∧ s'.gens = g ∧ s'.drawn = d ∧ s'.os = os ∧ s'.toks = tt) E ⟨hh, g, d, tt, os⟩ :=
    wpAny_tryMethod_declines (T := "int") (typeIs_int _ i t) slot (wpAny_mono decl (fun v s' q => ⟨q.1, rfl, q.2⟩) fun _ _ e => e)
  simp only [binaryOp, hi]
  refine wpAny_holding (wpAny_bind ?_)
  unfold binaryOp1
  refine wpAny_bind (wpAny_typeOf (typeIs_int _ i t) (wpAny_bind (L1.at (wpAny_bind (wpAny_of_eq hfill ?_)))))
  simp only [hne, Bool.false_eq_true, if_false]
  refine wpAny_bind (L3.at ?_)
  simp only [Bool.and_self, if_true]
  refine wpAny_bind (L5.at ?_)
  simp only [Bool.false_eq_true, if_false, pure_bind, Bool.not_false, Bool.and_self, if_true, hpy]
  refine wpAny_bind (wpAny_mono one (fun r s' q => ?_) fun _ _ e => e)
  obtain ⟨h1, g1, d1, t1, o1⟩ := s'
  obtain ⟨rfl, q1, q2, q3, q4, q5⟩ := q
  dsimp only at q1 q2 q3 q4 q5
  subst q1 q2 q3 q4 q5
  dsimp only
  refine wpAny_bind (wpAny_mono two (fun r s' q => ?_) fun _ _ e => e)
  obtain ⟨v, rfl, q⟩ := q
  exact wpAny_bind (wpAny_rule (wpAny_pure (wpAny_pure q)))
end
end Own
namespace Own
open PySem PySem.Spec PyProof.Rows
theorem slot_ne : Slot "object" "__ne__" "object.__ne__" :=
  .of (T := "object") (name := "__ne__") (owner := "object") (n := "__ne__") (by rw [typeLookup_type, builtinLookup_eq_fast]; kernel_rfl) (by decide +kernel) (by decide +kernel) (by decide +kernel)
    (.inl (by decide +kernel)) (by rw [isSubtype_type]; kernel_rfl)
section
variable {prog : Program} {w : World} {A : Around} {E : Value → Shared → Prop} {s : Shared} {K : PySem.W.Frag} {x C dx f : Addr} {od : Option Obj} {b tb : Value}
theorem check_ne {M : Model} {Q : Unit → Shared → Prop} (I : PySem.W.InstAt s.heap x (PySem.W.instObj C dx) C od) (KX : K.In s.heap) (ho : PySem.W.subIn K (.ref C) (.type "object") = some true) (h : Q () s) :
    wpAny M A (checkBuiltinCall "object.__ne__" ⟨[.ref x, b], []⟩) Q E s := by
  have ha : argsOk "object.__ne__" ⟨[.ref x, b], []⟩ := by unfold argsOk; kernel_rfl
  have L : PySem.W.Looks M s.heap (isSubtype (.ref C) (.type "object")) true := PySem.W.looks_subIn KX ho
  have at_ := I.at_
  obtain ⟨hp, g, d, t, os⟩ := s
  simp only [checkBuiltinCall, F.cmpKind_ne, F.cmpSplit_ne]
  refine wpAny_bind ?_
  unfold isInstance
  repeat (first | (with_reducible refine wpAny_loadPart_at at_ ?_) | (with_reducible refine L.at ?_) | wp_step)
  exact h
/-- != of an instance whose class has an own == alone -/
theorem ne_K {Q : Value → Shared → Prop} (hu : A.units + 1 < cLine) (KX : K.In s.heap) (I : PySem.W.InstAt s.heap x (PySem.W.instObj C dx) C od) (hb : PySem.W.Looks (model prog w) s.heap (typeOf b) tb) (hn : PySem.W.notFirst K C tb = true)
    (h0 : PySem.W.findIn K (.ref C) "__ne__" = some (some (.builtin "object.__ne__"))) (h1 : PySem.W.findIn K (.ref C) "__eq__" = some (some (.ref f))) (hf : PySem.W.isFn K (.ref f) = true) (ho : PySem.W.subIn K (.ref C) (.type "object") = some true)
    (h : wpAny (model prog w) A.in1 (call (.ref f) [.ref x, b]) (fun v s' => ∃ c, v = .bool c ∧ Q (.bool (!c)) s') E s) : wpAny (model prog w) A (richCompare .NotEq (.ref x) b) Q E s := by
  have eqc : wpAny (model prog w) A.in1 (callSpecialIfBound? (.ref x) (Str.ofString "__eq__") [b]) (fun r s' => ∃ c, r = some (.bool c) ∧ Q (.bool (!c)) s') E s :=
    PySem.W.ifBound_K KX I h1 hf (wpAny_mono h (fun v s' ⟨c, e, q⟩ => ⟨c, by rw [e], q⟩) fun _ _ e => e)
  have body : wpAny (model prog w) A.in1 (Builtin.«object.__ne__» ⟨[.ref x, b], []⟩) (fun fin s' => ∃ v, fin = .done (.ret v) ∧ ∃ c, v = .bool (!c) ∧ Q (.bool (!c)) s') E s := by
    obtain ⟨hp, g, d, t, os⟩ := s
    unfold Builtin.«object.__ne__»
    repeat (first
      | with_reducible refine wpAny_cRoomFor hu ?_
      | (refine wpAny_bind (m := callSpecialIfBound? (.ref x) (Str.ofString "__eq__") [b]) (wpAny_mono eqc (fun r s' hr => ?_) fun _ _ e => e))
      | wp_step)
    obtain ⟨c, rfl, q⟩ := hr
    repeat (first
      | exact ⟨_, rfl, c, rfl, q⟩
      | exact wpAny_pure ⟨_, rfl, c, rfl, q⟩
      | (refine wpAny_bind (m := truthy (.bool _)) (wpAny_truthy_bool ?_))
      | wp_step)
  have one : wpAny (model prog w) A (tryCompare (.ref x) (Str.ofString "__ne__") b) (fun r s' => ∃ c, r = some (.bool (!c)) ∧ Q (.bool (!c)) s') E s := by
    unfold tryCompare
    refine wpAny_bind ?_
    simp only [callSpecialIfBound?, bindSpecialIfBound?]
    refine wpAny_holding (wpAny_bind (wpAny_bind (wpAny_bind (I.type.here ((PySem.W.looks_findIn KX h0).here ?_)))))
    have last : wpAny (model prog w) A (call (.builtin "object.__ne__") ([.ref x] ++ [b]) >>= fun v => pure (some v)) (fun a s' => wpAny (model prog w) A (match a with | some .notImplemented | none => pure none | some v => pure (some v)) (fun r s' => ∃ c, r = some (.bool (!c)) ∧ Q (.bool (!c)) s') E s') E s := by
      refine wpAny_bind (wpAny_call (codeAny_call_builtin slot_ne.plain F.cmpEntry_ne (check_ne I KX ho (wpAny_mono body (fun fin s' hv => ?_) fun _ _ e => e))))
      obtain ⟨v, rfl, c, rfl, q⟩ := hv
      exact wpAny_pure (wpAny_pure ⟨c, rfl, q⟩)
    refine wpAny_bind (wpAny_askSetting (wpAny_ite ?_))
    simp only [slot_ne.bind]
    split
    · exact wpAny_bind (wpAny_pure (wpAny_pure last))
    · exact wpAny_tryCatch (wpAny_bind (wpAny_pure (wpAny_pure last)))
  unfold richCompare
  simp only [PySem.oneThing_ref]
  refine wpAny_holding (wpAny_bind (wpAny_cRoomFor (Nat.lt_of_succ_lt hu) ?_))
  rw [cmpInfo_NotEq]
  dsimp only
  refine wpAny_bind (I.type.here (wpAny_bind (hb.here ?_)))
  have tail : wpAny (model prog w) A (tryCompare (.ref x) (Str.ofString "__ne__") b) (fun r s' => ∃ v, r = some v ∧ Q v s') E s :=
    wpAny_mono one (fun r s' ⟨c, e, q⟩ => ⟨_, e, q⟩) fun _ _ e => e
  split
  · rename_i q
    have e : PySem.W.subIn K tb (.ref C) = some false := by
      rcases Bool.or_eq_true_iff.mp hn with e | e
      · rw [beq_iff_eq.mp e] at q; simp at q
      · exact beq_iff_eq.mp e
    refine wpAny_bind ((PySem.W.looks_subIn KX e).here ?_)
    simp only [Bool.false_eq_true, if_false]
    refine wpAny_bind (wpAny_mono tail (fun r s' z => ?_) fun _ _ e => e)
    obtain ⟨v, rfl, hq⟩ := z
    exact wpAny_pure hq
  · refine wpAny_bind (wpAny_pure ?_)
    simp only [Bool.false_eq_true, if_false]
    refine wpAny_bind (wpAny_mono tail (fun r s' z => ?_) fun _ _ e => e)
    obtain ⟨v, rfl, hq⟩ := z
    exact wpAny_pure hq
end
end Own
namespace Own
open PySem PySem.Spec PyProof.Rows L2
section
variable {X : Cx} {CX : CXT} {k : Nat} {f f0 C : Addr} {fd : FuncData} {ps : List Str} {sp : Sp} {E : XK} {op : Operator}
/-- a call one step further in -/
theorem runIn {pins : List (Addr × Obj)} {σ : L2.St} {H : Hp} {s : Shared} {Q : VK} {us : List Value} {vs : List V} (F : FnOk X.prog X.w X.K X.mg X.base CX k f fd ps sp) (hr : Room (k + 1) X.A) (hb : Binds X.K fd ps []) (hx : Passes CX X E)
    (I : Inv X pins σ H s) (r : Vals vs us) (h : sp vs H Q E) : wpAny (model X.prog X.w) X.A.in1 (PySem.call (.ref f) us) (EP X pins σ Q) X.xe s := by
  have hl : us.length = ps.length := by rw [← r.length]; exact F.len _ _ _ _ h
  have hb' := hb s us I.kIn (by simpa using hl)
  rw [List.append_nil] at hb'
  refine wpAny_call (codeAny_mono (F.run X.A.in1 X.stack s H ⟨us, []⟩ us vs Q E hr.in1 I.env0.in1 hb' r h) fun r s' hq => ?_)
  cases r with
  | error e => exact hx pins σ H s e s' I hq
  | ok fl =>
    cases fl with
    | ret u => exact I.after hq
    | next => exact False.elim hq
    | brk => exact False.elim hq
    | cont => exact False.elim hq
structure BinR (K : PySem.W.Frag) (C f : Addr) (op : Operator) : Prop where
  first : PySem.W.selfFirst K C = true
  l : ∃ f0 : Addr, PySem.W.findIn K (.ref C) (PySem.dunder op.info.2) = some (some (.ref f0))
  at_ : PySem.W.findIn K (.ref C) (dunderR op.info.2) = some (some (.ref f))
  fn : PySem.W.isFn K (.ref f) = true
  sub : PySem.W.subIn K (.ref C) (.type "int") = some false
def rRight (C : Addr) (sp : Sp) (E : XK) : R2 := fun x y H Q => ∃ i a dx fs, x = .int i ∧ y = .ref a ∧ H a = some (.ins C dx fs) ∧ sp [.ref a, .int i] H Q E
theorem opR_of {id : String} {B : Builtin} (hfill : fillsNumberSlot (.type "int") op.info.2 = pure true) (slot : Slot "int" (PySem.dunder op.info.2) id) (entry : entryFor table id = some B) (args : ∀ a b : Value, argsOk id ⟨[a, b], []⟩)
    (decl : ∀ {prog : Program} {w : World} {A : Around} {E : Value → Shared → Prop} {s : Shared} {x C dx : Addr} {i : Int} {t : Tok} {Q : Shared → Prop}, s.heap.get? x = some (PySem.W.instObj C dx) → Q s →
      wpAny (model prog w) A (B ⟨[.int i t, .ref x], []⟩) (fun fin s' => ∃ v, fin = .done (.ret v) ∧ v = .notImplemented ∧ Q s') E s)
    (F : FnOk X.prog X.w X.K X.mg X.base CX k f fd ps sp) (hr : Room k X.A) (Z : BinR X.K C f op) (hb : Binds X.K fd ps []) (hx : Passes CX X E) : OpR X (binaryOp op) (rRight C sp E) := by
  rintro pins s σ H x y u v Q I rx ry ⟨i, a, dx, fs, rfl, rfl, ha, q⟩
  obtain ⟨t, rfl⟩ := (show ∃ t, u = Value.int i t from rx)
  cases ry
  obtain ⟨od, J⟩ := inst I ha
  obtain ⟨z1, ⟨f0, z2⟩, z3, z4, z5⟩ := Z
  exact binR I.kIn J z1 z2 z3 z4 z5 hfill slot (wpAny_call_entry slot (typeIs_int s i t) entry (wpAny_mono (decl (Q := fun s' => s'.heap = s.heap ∧ s'.gens = s.gens ∧ s'.drawn = s.drawn ∧ s'.os = s.os ∧ s'.toks = s.toks) J.at_ ⟨rfl, rfl, rfl, rfl, rfl⟩) (fun fin s' ⟨v, e, q⟩ => ⟨v, e, q⟩) fun _ _ e => e) (args _ _))
    (back (run2 (x := .ref a) (y := .int i) F hr hb hx I rfl ⟨t, rfl⟩ q))
theorem opRadd (F : FnOk X.prog X.w X.K X.mg X.base CX k f fd ps sp) (hr : Room k X.A) (Z : BinR X.K C f .Add) (hb : Binds X.K fd ps []) (hx : Passes CX X E) : OpR X (binaryOp .Add) (rRight C sp E) :=
  opR_of PySem.F.fills_int_add PySem.F.slot_int_add PySem.F.entry_int_add PySem.F.args_int_add_2 decl_add F hr Z hb hx
theorem opRsub (F : FnOk X.prog X.w X.K X.mg X.base CX k f fd ps sp) (hr : Room k X.A) (Z : BinR X.K C f .Sub) (hb : Binds X.K fd ps []) (hx : Passes CX X E) : OpR X (binaryOp .Sub) (rRight C sp E) :=
  opR_of PySem.F.fills_int_sub PySem.F.slot_int_sub PySem.F.entry_int_sub PySem.F.args_int_sub_2 decl_sub F hr Z hb hx
theorem opRmul (F : FnOk X.prog X.w X.K X.mg X.base CX k f fd ps sp) (hr : Room k X.A) (Z : BinR X.K C f .Mult) (hb : Binds X.K fd ps []) (hx : Passes CX X E) : OpR X (binaryOp .Mult) (rRight C sp E) :=
  opR_of PySem.F.fills_int_mul PySem.F.slot_int_mul PySem.F.entry_int_mul PySem.F.args_int_mul_2 decl_mul F hr Z hb hx
structure Ne (K : PySem.W.Frag) (C f : Addr) : Prop where
  ne : PySem.W.findIn K (.ref C) "__ne__" = some (some (.builtin "object.__ne__"))
  eq : PySem.W.findIn K (.ref C) "__eq__" = some (some (.ref f))
  fn : PySem.W.isFn K (.ref f) = true
  ob : PySem.W.subIn K (.ref C) (.type "object") = some true
def rNeOwn (K : PySem.W.Frag) (C : Addr) (sp : Sp) (E : XK) : R2 := fun x y H Q => ∃ a dx fs t, x = .ref a ∧ H a = some (.ins C dx fs) ∧ TyX K H y t ∧ PySem.W.notFirst K C t = true ∧ sp [.ref a, y] H (fun v H' => ∃ b, v = .bl b ∧ Q (.bl (!b)) H') E
theorem ne (F : FnOk X.prog X.w X.K X.mg X.base CX k f fd ps sp) (hr : Room (k + 1) X.A) (Z : Ne X.K C f) (hb : Binds X.K fd ps []) (hx : Passes CX X E) : OpR X (compareOp .NotEq) (rNeOwn X.K C sp E) := by
  rintro pins s σ H x y u v Q I rx ry ⟨a, dx, fs, t, rfl, ha, ty, nf, q⟩
  cases rx
  obtain ⟨od, J⟩ := inst I ha
  have hu : X.A.units + 1 < cLine := hu_of hr
  exact ne_K hu I.kIn J (typed I ry ty) nf Z.ne Z.eq Z.fn Z.ob (wpAny_mono (runIn (us := [.ref a, v]) (vs := [.ref a, y]) F hr hb hx I (.cons rfl (.cons ry .nil)) q) (fun r s' hq => by
    obtain ⟨z, H', I', rz, b, rfl, q'⟩ := hq
    cases rz
    exact ⟨b, rfl, .bl (!b), H', I', rfl, q'⟩) fun _ _ e => e)
/-- len(o) by the own __len__ -/
theorem len (F : FnOk X.prog X.w X.K X.mg X.base CX k f fd ps sp) (hr : Room (k + 1) X.A) (B : Sp1 X.K C "__len__" f) (hb : Binds X.K fd ps []) (hx : Passes CX X E) :
    CallR X (.builtin "len") (fun xs H Q => ∃ a dx fs, xs = [.ref a] ∧ H a = some (.ins C dx fs) ∧ sp [.ref a] H (fun v H' => ∃ n, v = .int n ∧ 0 ≤ n ∧ n < 2 ^ 63 ∧ Q (.int n) H') E) := by
  rintro pins s σ H xs us Q I rs ⟨a, dx, fs, rfl, ha, q⟩
  cases rs with
  | cons r rest =>
    cases rest
    cases r
    obtain ⟨od, J⟩ := inst I ha
    obtain ⟨m, hF⟩ := I.fr
    refine PySem.W.len_K hF I.ok.mod.kin J B.at_ B.fn (wpAny_mono (runIn (us := [.ref a]) (vs := [.ref a]) F hr hb hx I (.cons rfl .nil) q) (fun r s' hq => ?_) fun _ _ e => e)
    obtain ⟨z, H', I', rz, n, rfl, h0, h1, q'⟩ := hq
    obtain ⟨t, rfl⟩ := (show ∃ t, r = Value.int n t from rz)
    exact ⟨⟨h0, h1⟩, .int n, H', I'.tok _, ⟨_, rfl⟩, q'⟩
end
theorem fnR_of {P : Program} {w : World} {K : PySem.W.Frag} {mg : Str → Option Value} {base : Heap} {CX : CXT} {k : Nat} {f : Addr} {fd : FuncData} {ps : List Str} {sp : Sp} (F : FnOk P w K mg base CX k f fd ps sp) (hb : Binds K fd ps []) : FnR P w K mg base CX k f sp := by
  intro A outer s H us vs Q E hr e0 r h
  have KX : K.In s.heap := e0.mod.kin.keeps fun b o e => (e0.bs b o e).1
  have hl : us.length = ps.length := by rw [← r.length]; exact F.len _ _ _ _ h
  have hb' := hb s us KX (by simpa using hl)
  rw [List.append_nil] at hb'
  exact F.run A outer s H ⟨us, []⟩ us vs Q E hr e0 hb' r h
def rIop (C : Addr) (sp : Sp) (E : XK) : R2 := fun x y H Q => ∃ a dx fs, x = .ref a ∧ H a = some (.ins C dx fs) ∧ sp [.ref a, y] H Q E
theorem pip {X : Cx} {C : Addr} {sp : Sp} {E : XK} {op : Operator} (h : OpR X (inplaceOp op) (fun x y H Q => ∃ a dx fs, x = .ref a ∧ H a = some (.ins C dx fs) ∧ sp [.ref a, y] H Q E)) : PIp X op (rIop C sp E) :=
  fun pins s σ H x y v u Q I rx ry q => h pins s σ H x y v u Q I rx ry q
theorem iop2 {H : Hp} {Q : VK} {C a dx : Addr} {sp : Sp} {E : XK} {fs : List (Str × V)} {y : V} (ha : H a = some (.ins C dx fs)) (h : sp [.ref a, y] H Q E) : rIop C sp E (.ref a) y H Q := ⟨a, dx, fs, rfl, ha, h⟩
/-- f(e, ..), f an expression that gives an instance of C: the reading speaks of the heap alone -/
def tCallI (C : Addr) (sp : Sp) (E : XK) (tf : TE) (t : TA) : TE := fun σ H Q => tf σ H fun y H1 => ∃ a, y = V.ref a ∧ t σ H1 fun vs H2 => (∃ dx fs, H2 a = some (.ins C dx fs)) ∧ sp (V.ref a :: vs) H2 Q E
theorem pe_callI {X : Cx} {CX : CXT} {k : Nat} {g C : Addr} {sp : Sp} {E : XK} {fe e : Expr} {es : List Expr} {tf : TE} {t : TA} {pos : Pos} (hf : PE X fe tf) (c : StX.CallO X.K C g) (F : FnR X.prog X.w X.K X.mg X.base CX k g sp) (hr : Room k X.A) (hx : Passes CX X E) (ha : PA X (e :: es) t)
    (ht : eval (.Call fe (e :: es) [] pos) X.env = (do callWith pos (← eval fe X.env) [] (backTo pos (starEach (e :: es) X.env)) (backToKw pos (keywordEach [] X.env))) := by rfl)
    (he : starEach (e :: es) X.env = (false, eval e X.env) :: starEach es X.env := by rfl) (hpl : (backTo pos (starEach es X.env)).any (·.1) = false := by rfl) : PE X (.Call fe (e :: es) [] pos) (tCallI C sp E tf t) := by
  refine ⟨fun pins s σ H Q I h => Call_ (thn (hf.run pins s σ H _ I h) fun u s1 z => ?_) ht⟩
  obtain ⟨y, H1, I1, ry, a, rfl, q⟩ := z
  cases ry
  refine StX.callO_with (thn (ha.run pos pins s1 σ H1 _ I1 q) fun us s2 z2 => ?_) he hpl
  obtain ⟨vs, H2, I2, r, hi, q2⟩ := z2
  obtain ⟨od, J⟩ : ∃ od, PySem.W.InstAt s2.heap a (PySem.W.instObj C hi.choose) C od := inst I2 hi.choose_spec.choose_spec
  exact ⟨⟨C, _, od, J, rfl⟩, StX.run_callO c F hr hx I2 (.inr hi) r q2⟩
section
variable {σ : L2.St} {H : Hp} {Q : VK} {C : Addr} {sp : Sp} {E : XK}
theorem opS2 {a b dx dy : Addr} {fs gs : List (Str × V)} (ha : H a = some (.ins C dx fs)) (hb : H b = some (.ins C dy gs)) (h : sp [.ref a, .ref b] H Q E) : rSame C sp E (.ref a) (.ref b) H Q := ⟨a, b, dx, dy, fs, gs, rfl, rfl, ha, hb, h⟩
theorem opT2 {a dx : Addr} {fs : List (Str × V)} {T : String} {y : V} (ha : H a = some (.ins C dx fs)) (ty : ∀ u, RelV y u → typeOf u = pure (.type T)) (h : sp [.ref a, y] H Q E) : rLeft C T sp E (.ref a) y H Q := ⟨a, dx, fs, rfl, ha, ty, h⟩
theorem opR2 {a dx : Addr} {fs : List (Str × V)} {i : Int} (ha : H a = some (.ins C dx fs)) (h : sp [.ref a, .int i] H Q E) : rRight C sp E (.int i) (.ref a) H Q := ⟨i, a, dx, fs, rfl, rfl, ha, h⟩
theorem neg2 {a dx : Addr} {fs : List (Str × V)} (ha : H a = some (.ins C dx fs)) (h : sp [.ref a] H Q E) : rOne C sp E (.ref a) H Q := ⟨a, dx, fs, rfl, ha, h⟩
theorem cmp2 {K : PySem.W.Frag} {a dx : Addr} {fs : List (Str × V)} {y : V} {t : Value} (ha : H a = some (.ins C dx fs)) (ty : TyX K H y t) (nf : PySem.W.notFirst K C t = true) (h : sp [.ref a, y] H Q E) : rCmp K C sp E (.ref a) y H Q := ⟨a, dx, fs, t, rfl, ha, ty, nf, h⟩
theorem ne2 {K : PySem.W.Frag} {a dx : Addr} {fs : List (Str × V)} {y : V} {t : Value} (ha : H a = some (.ins C dx fs)) (ty : TyX K H y t) (nf : PySem.W.notFirst K C t = true) (h : sp [.ref a, y] H (fun v H' => ∃ b, v = .bl b ∧ Q (.bl (!b)) H') E) : rNeOwn K C sp E (.ref a) y H Q := ⟨a, dx, fs, t, rfl, ha, ty, nf, h⟩
theorem callI {tf : TE} {t : TA} (h : tf σ H fun y H1 => ∃ a, y = V.ref a ∧ t σ H1 fun vs H2 => (∃ dx fs, H2 a = some (.ins C dx fs)) ∧ sp (V.ref a :: vs) H2 Q E) : tCallI C sp E tf t σ H Q := h
theorem ty_int {i : Int} : ∀ u, RelV (.int i) u → typeOf u = pure (.type "int") := by
  rintro u ⟨t, rfl⟩
  rfl
end
end Own
/-! ## lists made of lists, and what == says of ints -/
namespace Rd
open PySem PySem.Spec PyProof.Rows L2
theorem lc {wi : TI} {g : TG} {tt : TT} {te : TE} {vs : List Nat} {σ : L2.St} {H : Hp} {Q : VK} (h : wi σ H fun J H1 => ∀ D, H1 D = none → ∃ W : Nat → Nat → Hp → Prop, (∃ m, W 0 m (upd H1 D (.lst []))) ∧ ∀ i m H, W i m H →
    (J.stop i H ∧ Q (.ref D) H) ∨ (J.go i H ∧ ∃ Nx : Hp → Prop, (∀ H', Nx H' → ∃ m', m' < m ∧ W (i + 1) m' H') ∧ ∀ x H', J.yld i H x H' → g x (wipe σ vs) H' fun σ2 H2 => wipe σ2 vs = wipe σ vs ∧ tt σ2 H2 fun b H3 =>
      if b = true then te σ2 H3 fun y H4 => ∃ acc, H4 D = some (.lst acc) ∧ acc.length < sizeLine ∧ Nx (upd H4 D (.lst (acc ++ [y]))) else Nx H3)) : tLc wi g tt te vs σ H Q := h
theorem il {K : PySem.W.Frag} {tl : TE} {σ : L2.St} {H : Hp} {R : It → Hp → Prop} (h : tl σ H fun x H1 => ∃ a, x = .ref a ∧ (∃ xs, SqL K H1 a xs) ∧ R (Itl K a) H1) : iList K tl σ H R := h
theorem same_upd {H H' : Hp} {D : Addr} {o : HO} (hD : H D = none) (S : Same H H') : Same H (upd H' D o) := fun b u e => by
  rw [upd_ne (ne_of_none e hD)]
  exact S b u e
/-- [e for x in l]: the items' images, where e makes the image and leaves what was tracked -/
theorem lcMap {α : Type} {items : List α} {inj res : α → V} {K : PySem.W.Frag} {a : Addr} {i : Nat} {te : TE} {vs : List Nat} {σ : L2.St} {H : Hp} {Q : VK} (hs : SqL K H a (items.map inj)) (hn : items.length ≤ 1000)
    (hw : ∀ x, wipe ((wipe σ vs).set i (some x)) vs = wipe σ vs)
    (elem : ∀ x ∈ items, ∀ H', Same H H' → ∀ R : VK, (∀ H'', Same H' H'' → R (res x) H'') → te ((wipe σ vs).set i (some (inj x))) H' R)
    (k : ∀ (p : Addr) (H' : Hp), H p = none → Same H H' → H' p = some (.lst (items.map res)) → Q (.ref p) H') :
    (∃ xs, SqL K H a xs) ∧ ∀ D, H D = none → ∃ W : Nat → Nat → Hp → Prop, (∃ m, W 0 m (upd H D (.lst []))) ∧ ∀ t m H, W t m H →
      ((Itl K a).stop t H ∧ Q (.ref D) H) ∨ ((Itl K a).go t H ∧ ∃ Nx : Hp → Prop, (∀ H', Nx H' → ∃ m', m' < m ∧ W (t + 1) m' H') ∧ ∀ x H', (Itl K a).yld t H x H' → (gName i) x (wipe σ vs) H' fun σ2 H2 => wipe σ2 vs = wipe σ vs ∧ tYes σ2 H2 fun b H3 =>
        if b = true then te σ2 H3 fun y H4 => ∃ acc, H4 D = some (.lst acc) ∧ acc.length < sizeLine ∧ Nx (upd H4 D (.lst (acc ++ [y]))) else Nx H3) := by
  refine ⟨⟨_, hs⟩, fun D hD => lc_list (xs := items.map inj) (fun t H' => Same H H' ∧ H' D = some (.lst ((items.take t).map res))) ⟨same_upd hD (Same.refl _), upd_same⟩ (fun t H' _ p => p.1.seq hs) (fun t x H' hx p => ?_) (fun H' p => ?_)⟩
  · obtain ⟨S, hl⟩ := p
    rw [List.getElem?_map] at hx
    cases e : items[t]? with
    | none => rw [e] at hx; cases hx
    | some y =>
      rw [e] at hx
      cases hx
      have hy : y ∈ items := List.mem_of_getElem? e
      have ht : t < items.length := (List.getElem?_eq_some_iff.mp e).1
      refine ⟨hw _, iteT (B := Same H H' ∧ H' D = some (.lst ((items.take (t + 1)).map res))) rfl (elem y hy H' S _ fun H'' S' => ⟨_, S' _ _ hl, ?_, ?_, ?_⟩)⟩
      · rw [List.length_map, List.length_take]
        exact small1000 (by omega)
      · exact same_upd hD (S.trans S')
      · rw [upd_same, List.take_add_one, e]
        simp
  · obtain ⟨S, hl⟩ := p
    rw [List.length_map, List.take_length] at hl
    exact k D H' hD S hl
theorem lcMapI {ns : List Int} {g : Int → Int} {K : PySem.W.Frag} {a : Addr} {i : Nat} {te : TE} {vs : List Nat} {σ : L2.St} {H : Hp} {Q : VK} (hs : SqL K H a (ns.map V.int)) (hn : ns.length ≤ 1000)
    (hw : ∀ x, wipe ((wipe σ vs).set i (some x)) vs = wipe σ vs)
    (elem : ∀ x ∈ ns, ∀ H', Same H H' → ∀ R : VK, (∀ H'', Same H' H'' → R (.int (g x)) H'') → te ((wipe σ vs).set i (some (.int x))) H' R)
    (k : ∀ (p : Addr) (H' : Hp), H p = none → Same H H' → H' p = some (.lst ((ns.map g).map V.int)) → Q (.ref p) H') :
    (∃ xs, SqL K H a xs) ∧ ∀ D, H D = none → ∃ W : Nat → Nat → Hp → Prop, (∃ m, W 0 m (upd H D (.lst []))) ∧ ∀ t m H, W t m H →
      ((Itl K a).stop t H ∧ Q (.ref D) H) ∨ ((Itl K a).go t H ∧ ∃ Nx : Hp → Prop, (∀ H', Nx H' → ∃ m', m' < m ∧ W (t + 1) m' H') ∧ ∀ x H', (Itl K a).yld t H x H' → (gName i) x (wipe σ vs) H' fun σ2 H2 => wipe σ2 vs = wipe σ vs ∧ tYes σ2 H2 fun b H3 =>
        if b = true then te σ2 H3 fun y H4 => ∃ acc, H4 D = some (.lst acc) ∧ acc.length < sizeLine ∧ Nx (upd H4 D (.lst (acc ++ [y]))) else Nx H3) :=
  lcMap (inj := V.int) (res := fun x => .int (g x)) hs hn hw elem fun p H' hp S h => k p H' hp S (by rw [List.map_map]; exact h)
theorem lcVarI {ns : List Int} {g : Int → Int} {K : PySem.W.Frag} {a : Addr} {i j : Nat} {te : TE} {vs : List Nat} {σ : L2.St} {H : Hp} {Q : VK} (ej : σ[j]? = some (some (.ref a))) (hs : SqL K H a (ns.map V.int)) (hn : ns.length ≤ 1000)
    (hw : ∀ x, wipe ((wipe σ vs).set i (some x)) vs = wipe σ vs)
    (elem : ∀ x ∈ ns, ∀ H', Same H H' → ∀ R : VK, (∀ H'', Same H' H'' → R (.int (g x)) H'') → te ((wipe σ vs).set i (some (.int x))) H' R)
    (k : ∀ (p : Addr) (H' : Hp), H p = none → Same H H' → H' p = some (.lst ((ns.map g).map V.int)) → Q (.ref p) H') : tLc (iList K (tVar j)) (gName i) tYes te vs σ H Q :=
  lc (il ⟨_, ej, _, rfl, lcMapI hs hn hw elem k⟩)
/-- [e for x in l if t] where t never holds: a new empty list -/
theorem lcNone {items : List V} {K : PySem.W.Frag} {a : Addr} {i j : Nat} {te : TE} {tt : TT} {vs : List Nat} {σ : L2.St} {H : Hp} {Q : VK} (ej : σ[j]? = some (some (.ref a))) (hs : SqL K H a items)
    (hw : ∀ x, wipe ((wipe σ vs).set i (some x)) vs = wipe σ vs)
    (test : ∀ x ∈ items, ∀ H', Same H H' → ∀ R : Bool → Hp → Prop, (∀ H'', Same H' H'' → R false H'') → tt ((wipe σ vs).set i (some x)) H' R)
    (k : ∀ (p : Addr) (H' : Hp), H p = none → Same H H' → H' p = some (.lst []) → Q (.ref p) H') : tLc (iList K (tVar j)) (gName i) tt te vs σ H Q := by
  refine lc (il ⟨_, ej, _, rfl, ⟨_, hs⟩, fun D hD => lc_list (xs := items) (fun _ H' => Same H H' ∧ H' D = some (.lst [])) ⟨same_upd hD (Same.refl _), upd_same⟩ (fun t H' _ p => p.1.seq hs) (fun t x H' hx p => ?_) (fun H' p => k D H' hD p.1 p.2)⟩)
  obtain ⟨S, hl⟩ := p
  refine ⟨hw _, test x (List.mem_of_getElem? hx) H' S _ fun H'' S' => ?_⟩
  exact iteF (A := te _ H'' _) rfl ⟨S.trans S', S' _ _ hl⟩
theorem mulB {a n : Int} {A B : Nat} (ha : a.natAbs < 2 ^ A) (hn : n.natAbs < 2 ^ B) : -(2 ^ (A + B)) < a * n ∧ a * n < 2 ^ (A + B) := by
  have h := wide_lt ha hn
  have e : ((2 ^ (A + B) : Nat) : Int) = (2 : Int) ^ (A + B) := by simp
  rw [← e]
  omega
theorem dp_ints {K : PySem.W.Frag} {H : Hp} : ∀ ns : List Int, DpAll K H (ns.map V.int) (ns.map PyData.int)
  | [] => .nil
  | _ :: r => .cons (.int _) (dp_ints r)
theorem dp_listI {K : PySem.W.Frag} {H : Hp} {a : Addr} {ns : List Int} (h : SqL K H a (ns.map V.int)) : Dp K H (.ref a) (.list (ns.map PyData.int)) := .lst h (dp_ints ns)
theorem can_ints : ∀ ns : List Int, PyData.canLayAll0 (ns.map PyData.int) = true
  | [] => by simp [PyData.canLayAll0]
  | _ :: r => by simp only [List.map_cons, PyData.canLayAll0, PyData.canLay0, can_ints r, Bool.and_self]
theorem dep_ints : ∀ ns : List Int, PyData.depthAll (ns.map PyData.int) = 0
  | [] => by simp [PyData.depthAll]
  | _ :: r => by simp only [List.map_cons, PyData.depthAll, PyData.depth, dep_ints r, Nat.max_self]
theorem shaped_listI (ns : List Int) : SeqAt.shaped (.list (ns.map PyData.int)) = true := by
  simp only [SeqAt.shaped, PyData.canLay0, can_ints, PyData.depth, dep_ints]
  decide
theorem eqvAll_ints : ∀ ns ms : List Int, PyData.eqvAll (ns.map PyData.int) (ms.map PyData.int) = decide (ns = ms)
  | [], [] => by simp [PyData.eqvAll]
  | [], _ :: _ => by simp [PyData.eqvAll]
  | _ :: _, [] => by simp [PyData.eqvAll]
  | x :: r, y :: q => by
    simp only [List.map_cons, PyData.eqvAll, PyData.eqv, eqvAll_ints r q]
    by_cases h : x = y
    · subst h; simp
    · simp [h]
theorem eqv_listI (ns ms : List Int) : PyData.eqv (.list (ns.map PyData.int)) (.list (ms.map PyData.int)) = decide (ns = ms) := by
  simp only [PyData.eqv, eqvAll_ints]
theorem eqv_pair (a b c d : Int) : PyData.eqv (.tuple [.int a, .int b]) (.tuple [.int c, .int d]) = (a == c && b == d) := by
  simp [PyData.eqv, PyData.eqvAll]
theorem eqv_pairV (a b c d : Int) : PyData.eqv (.tuple [.int a, .int b]) (.tuple [.int c, .int d]) = (decide (V.int a = .int c) && decide (V.int b = .int d)) := by
  simp only [PyData.eqv, PyData.eqvAll, Bool.and_true, V.int.injEq]
  rw [Bool.eq_iff_iff]
  simp
theorem dp_pair {K : PySem.W.Frag} {H : Hp} {p : Addr} {a b : Int} (h : SqT K H p [.int a, .int b]) : Dp K H (.ref p) (.tuple [.int a, .int b]) := .tup h (.cons (.int _) (.cons (.int _) .nil))
theorem shaped_pair (a b : Int) : SeqAt.shaped (.tuple [.int a, .int b]) = true := by
  simp only [SeqAt.shaped, PyData.canLay0, PyData.canLayAll0, PyData.depth, PyData.depthAll]
  rfl
theorem isi {X : Cx} {K : PySem.W.Frag} (e : X.K = K) : CallR X (.builtin "isinstance") (rIsi K) := e ▸ call_isi
theorem dp_nil {K : PySem.W.Frag} {H : Hp} {p : Addr} (h : SqL K H p []) : Dp K H (.ref p) (.list []) := .lst h .nil
theorem eqv_nil : PyData.eqv (.list []) (.list []) = true := by simp [PyData.eqv, PyData.eqvAll]
theorem shaped_nil : SeqAt.shaped (.list []) = true := by
  simp only [SeqAt.shaped, PyData.canLay0, PyData.canLayAll0, PyData.depth, PyData.depthAll]
  rfl
/-- an item of a written list of ints at a drawn place -/
theorem pick {ns : List Int} {lo hi : Int} {K : PySem.W.Frag} {H : Hp} {a : Addr} {xs : List V} {d : Int} {Q : VK} (hm : ∀ n ∈ ns, lo ≤ n ∧ n ≤ hi) (e : SqL K H a xs) (eq : xs = ns.map V.int) (h0 : 0 ≤ d) (h1 : d < (ns.length : Int))
    (h : ∀ n : Int, n ∈ ns → lo ≤ n → n ≤ hi → Q (.int n) H) : rIxL K (.ref a) (.int d) H Q := by
  subst eq
  obtain ⟨j, rfl⟩ : ∃ j : Nat, d = (j : Int) := ⟨d.toNat, by omega⟩
  have hj : j < ns.length := by omega
  have hn : ns[j] ∈ ns := List.getElem_mem hj
  exact ⟨a, _, _, .int ns[j], rfl, rfl, e, atI_nat (by rw [List.getElem?_map, List.getElem?_eq_getElem hj]; rfl), h _ hn (hm _ hn).1 (hm _ hn).2⟩
theorem sgn {d n B : Int} (h0 : 0 ≤ d) (h1 : d < B) (m : n ∈ [(1 : Int), -1]) : -B < d * n ∧ d * n < B := by
  simp only [List.mem_cons, List.not_mem_nil, or_false] at m
  rcases m with rfl | rfl <;> omega
end Rd
/-! ## pairs in order, lists of truths -/
namespace Rd
open PySem PySem.Spec PyProof.Rows L2
/-- what an order of pairs says: rr of the first unlike parts, z where all are alike -/
def rPr (K : PySem.W.Frag) (z : Bool) (rr : Int → Int → Bool) : R2 := fun x y H Q => ∃ (p q : Addr) (a b c d : Int), x = .ref p ∧ y = .ref q ∧ SqT K H p [.int a, .int b] ∧ SqT K H q [.int c, .int d] ∧ Q (.bl (if a = c then (if b = d then z else rr b d) else rr a c)) H
theorem pair_ints {us : List Value} {a b : Int} (h : IntsAre us [a, b]) : ∃ t u, us = [.int a t, .int b u] := by
  cases h with
  | cons _ t h1 =>
    cases h1 with
    | cons _ u h2 =>
      cases h2
      exact ⟨t, u, rfl⟩
theorem opPr {X : Cx} {op : CmpOp} {z : Bool} {rr : Int → Int → Bool}
    (T : ∀ {s : Shared} {l m : Addr} {u1 u2 w1 w2 : Value} {e r : Nat → Bool}, s.heap.IsTuple l #[u1, u2] → s.heap.IsTuple m #[w1, w2] →
      (∀ j (h1 : j < (#[u1, u2] : Array Value).size) (h2 : j < (#[w1, w2] : Array Value).size), SeqAt.EqAt X.A.in1 s (#[u1, u2] : Array Value)[j] (#[w1, w2] : Array Value)[j] (e j)) →
      (∀ j (h1 : j < (#[u1, u2] : Array Value).size) (h2 : j < (#[w1, w2] : Array Value).size), e j = false → Ob.RcOp op X.A.in1 s (#[u1, u2] : Array Value)[j] (#[w1, w2] : Array Value)[j] (r j)) → Ob.RcOp op X.A s (.ref l) (.ref m) (Ob.lexAt e r z 0 2))
    (I1 : ∀ {s : Shared} (a b : Int) (t u : Tok), Ob.RcOp op X.A.in1 s (.int a t) (.int b u) (rr a b))
    (hop : ∀ (x y : Value), compareOp op x y = richCompare op x y) : OpR X (compareOp op) (rPr X.K z rr) := by
  intro pins s σ H x y v u Q I rx ry h
  obtain ⟨p, q, a, b, c, d, rfl, rfl, hp, hq, k⟩ := h
  cases rx
  cases ry
  obtain ⟨us, r1, p1, _⟩ := I.tuple hp
  obtain ⟨ws, r2, p2, _⟩ := I.tuple hq
  obtain ⟨t1, t2, rfl⟩ := pair_ints (Vals.ints (ns := [a, b]) r1)
  obtain ⟨t3, t4, rfl⟩ := pair_ints (Vals.ints (ns := [c, d]) r2)
  have R := T (s := s) (e := fun j => if j = 0 then decide (a = c) else decide (b = d)) (r := fun j => if j = 0 then rr a c else rr b d) p1 p2 (fun j h1 h2 => by
    rcases j with _ | _ | j
    · have w := SeqAt.EqAt.int_int (A := X.A.in1) (s := s) a t1 c t3
      rw [show (a == c) = decide (a = c) from by by_cases e : a = c <;> simp [e]] at w
      exact w
    · have w := SeqAt.EqAt.int_int (A := X.A.in1) (s := s) b t2 d t4
      rw [show (b == d) = decide (b = d) from by by_cases e : b = d <;> simp [e]] at w
      exact w
    · exact absurd h1 (by simp)) (fun j h1 h2 _ => by
    rcases j with _ | _ | j
    · exact I1 a c t1 t3
    · exact I1 b d t2 t4
    · exact absurd h1 (by simp))
  have hb : Ob.lexAt (fun j => if j = 0 then decide (a = c) else decide (b = d)) (fun j => if j = 0 then rr a c else rr b d) z 0 2 = (if a = c then (if b = d then z else rr b d) else rr a c) := by
    simp only [Ob.lexAt, decide_eq_true_eq, if_pos]
    by_cases e : a = c <;> by_cases f : b = d <;> simp [e, f]
  rw [hb] at R
  show wpAny (model X.prog X.w) X.A (compareOp op (.ref p) (.ref q)) (EP X pins σ Q) X.xe s
  rw [hop]
  exact R X.prog X.w X.xe (EP X pins σ Q) ⟨.bl _, H, I, rfl, k⟩
theorem opPrLt {X : Cx} (hu : X.A.units < cLine) : OpR X (compareOp .Lt) (rPr X.K false fun a b => decide (a < b)) :=
  opPr (fun h1 h2 e r => Ob.RcOp.tuples_lt h1 h2 hu e r) (fun a b t u => Ob.RcOp.lt_int a b t u) (fun _ _ => rfl)
theorem opPrLe {X : Cx} (hu : X.A.units < cLine) : OpR X (compareOp .LtE) (rPr X.K true fun a b => decide (a ≤ b)) :=
  opPr (fun h1 h2 e r => Ob.RcOp.tuples_le h1 h2 hu e r) (fun a b t u => Ob.RcOp.le_int a b t u) (fun _ _ => rfl)
theorem opPrGt {X : Cx} (hu : X.A.units < cLine) : OpR X (compareOp .Gt) (rPr X.K false fun a b => decide (b < a)) :=
  opPr (fun h1 h2 e r => Ob.RcOp.tuples_gt h1 h2 hu e r) (fun a b t u => Ob.RcOp.gt_int a b t u) (fun _ _ => rfl)
theorem opPrGe {X : Cx} (hu : X.A.units < cLine) : OpR X (compareOp .GtE) (rPr X.K true fun a b => decide (b ≤ a)) :=
  opPr (fun h1 h2 e r => Ob.RcOp.tuples_ge h1 h2 hu e r) (fun a b t u => Ob.RcOp.ge_int a b t u) (fun _ _ => rfl)
section
variable {K : PySem.W.Frag} {H : Hp} {p q : Addr} {a b c d : Int} {Q : VK}
theorem prLt (e : SqT K H p [.int a, .int b]) (f : SqT K H q [.int c, .int d]) (h : Q (.bl (decide (a < c ∨ a = c ∧ b < d))) H) : rPr K false (fun a b => decide (a < b)) (.ref p) (.ref q) H Q := by
  refine ⟨_, _, a, b, c, d, rfl, rfl, e, f, ?_⟩
  have w : (if a = c then (if b = d then false else decide (b < d)) else decide (a < c)) = decide (a < c ∨ a = c ∧ b < d) := by
    split <;> (try split) <;> (rw [eq_comm]; first | (apply decide_eq_false; omega) | (congr 1; apply propext; omega))
  rw [w]
  exact h
theorem prLe (e : SqT K H p [.int a, .int b]) (f : SqT K H q [.int c, .int d]) (h : Q (.bl (decide (a < c ∨ a = c ∧ b ≤ d))) H) : rPr K true (fun a b => decide (a ≤ b)) (.ref p) (.ref q) H Q := by
  refine ⟨_, _, a, b, c, d, rfl, rfl, e, f, ?_⟩
  have w : (if a = c then (if b = d then true else decide (b ≤ d)) else decide (a ≤ c)) = decide (a < c ∨ a = c ∧ b ≤ d) := by
    split <;> (try split) <;> (rw [eq_comm]; first | (apply decide_eq_true; omega) | (congr 1; apply propext; omega))
  rw [w]
  exact h
theorem prGt (e : SqT K H p [.int a, .int b]) (f : SqT K H q [.int c, .int d]) (h : Q (.bl (decide (c < a ∨ a = c ∧ d < b))) H) : rPr K false (fun a b => decide (b < a)) (.ref p) (.ref q) H Q := by
  refine ⟨_, _, a, b, c, d, rfl, rfl, e, f, ?_⟩
  have w : (if a = c then (if b = d then false else decide (d < b)) else decide (c < a)) = decide (c < a ∨ a = c ∧ d < b) := by
    split <;> (try split) <;> (rw [eq_comm]; first | (apply decide_eq_false; omega) | (congr 1; apply propext; omega))
  rw [w]
  exact h
theorem prGe (e : SqT K H p [.int a, .int b]) (f : SqT K H q [.int c, .int d]) (h : Q (.bl (decide (c < a ∨ a = c ∧ d ≤ b))) H) : rPr K true (fun a b => decide (b ≤ a)) (.ref p) (.ref q) H Q := by
  refine ⟨_, _, a, b, c, d, rfl, rfl, e, f, ?_⟩
  have w : (if a = c then (if b = d then true else decide (d ≤ b)) else decide (c ≤ a)) = decide (c < a ∨ a = c ∧ d ≤ b) := by
    split <;> (try split) <;> (rw [eq_comm]; first | (apply decide_eq_true; omega) | (congr 1; apply propext; omega))
  rw [w]
  exact h
end
/-- t + u, of pairs -/
theorem catP {K : PySem.W.Frag} {H : Hp} {p q : Addr} {a b c d : V} {Q : VK} (e : SqT K H p [a, b]) (f : SqT K H q [c, d]) (h : ∀ r, H r = none → Q (.ref r) (upd H r (.tup [a, b, c, d]))) : rCatT K (.ref p) (.ref q) H Q :=
  ⟨p, q, _, _, rfl, rfl, e, f, by simp, Nat.le_of_lt (small1000 (show 4 ≤ 1000 by decide)), fun z => absurd z (by simp), fun _ r hr => h r hr⟩
theorem it {K : PySem.W.Frag} {tl : TE} {σ : L2.St} {H : Hp} {R : It → Hp → Prop} (h : tl σ H fun x H1 => ∃ a, x = .ref a ∧ (∃ xs, SqT K H1 a xs) ∧ R (Itt K a) H1) : iTup K tl σ H R := h
theorem ckw {r : List V → List V → Hp → VK → Prop} {t tk : TA} {σ : L2.St} {H : Hp} {Q : VK} (h : t σ H fun vs H1 => tk σ H1 fun zs H2 => r vs zs H2 Q) : tCKw r t tk σ H Q := h
theorem sqTS {K : PySem.W.Frag} {H H' : Hp} {a : Addr} {xs : List V} (f : Same H H') (h : SqT K H a xs) : SqT K H' a xs :=
  h.elim (fun r => .inl (r.elim (fun z => .inl (f _ _ z)) fun ⟨o, z⟩ => .inr ⟨o, f _ _ z⟩)) .inr
/-- [e for x in t], t a tuple of ints -/
theorem lcMapT {ns : List Int} {g : Int → Int} {K : PySem.W.Frag} {a : Addr} {i : Nat} {te : TE} {vs : List Nat} {σ : L2.St} {H : Hp} {Q : VK} {xs : List V} (hs : SqT K H a xs) (ex : xs = ns.map V.int) (hn : ns.length ≤ 1000)
    (hw : ∀ x, wipe ((wipe σ vs).set i (some x)) vs = wipe σ vs)
    (elem : ∀ x ∈ ns, ∀ H', Same H H' → ∀ R : VK, (∀ H'', Same H' H'' → R (.int (g x)) H'') → te ((wipe σ vs).set i (some (.int x))) H' R)
    (k : ∀ (p : Addr) (H' : Hp), H p = none → Same H H' → H' p = some (.lst ((ns.map g).map V.int)) → Q (.ref p) H') :
    (∃ xs, SqT K H a xs) ∧ ∀ D, H D = none → ∃ W : Nat → Nat → Hp → Prop, (∃ m, W 0 m (upd H D (.lst []))) ∧ ∀ t m H, W t m H →
      ((Itt K a).stop t H ∧ Q (.ref D) H) ∨ ((Itt K a).go t H ∧ ∃ Nx : Hp → Prop, (∀ H', Nx H' → ∃ m', m' < m ∧ W (t + 1) m' H') ∧ ∀ x H', (Itt K a).yld t H x H' → (gName i) x (wipe σ vs) H' fun σ2 H2 => wipe σ2 vs = wipe σ vs ∧ tYes σ2 H2 fun b H3 =>
        if b = true then te σ2 H3 fun y H4 => ∃ acc, H4 D = some (.lst acc) ∧ acc.length < sizeLine ∧ Nx (upd H4 D (.lst (acc ++ [y]))) else Nx H3) := by
  subst ex
  refine ⟨⟨_, hs⟩, fun D hD => lc_tup (xs := ns.map V.int) (fun t H' => Same H H' ∧ H' D = some (.lst (((ns.take t).map g).map V.int))) ⟨same_upd hD (Same.refl _), upd_same⟩ (fun t H' _ p => sqTS p.1 hs) (fun t x H' hx p => ?_) (fun H' p => ?_)⟩
  · obtain ⟨S, hl⟩ := p
    rw [List.getElem?_map] at hx
    cases e : ns[t]? with
    | none => rw [e] at hx; cases hx
    | some y =>
      rw [e] at hx
      cases hx
      have hy : y ∈ ns := List.mem_of_getElem? e
      have ht : t < ns.length := (List.getElem?_eq_some_iff.mp e).1
      refine ⟨hw _, iteT (B := Same H H' ∧ H' D = some (.lst (((ns.take (t + 1)).map g).map V.int))) rfl (elem y hy H' S _ fun H'' S' => ⟨_, S' _ _ hl, ?_, ?_, ?_⟩)⟩
      · rw [List.length_map, List.length_map, List.length_take]
        exact small1000 (by omega)
      · exact same_upd hD (S.trans S')
      · rw [upd_same, List.take_add_one, e]
        simp
  · obtain ⟨S, hl⟩ := p
    rw [List.length_map, List.take_length] at hl
    exact k D H' hD S hl
/-- [e for x in t + u], t and u pairs of ints -/
theorem lcCatI {a b c d : Int} {g : Int → Int} {K : PySem.W.Frag} {p q : Addr} {i j1 j2 : Nat} {te : TE} {vs : List Nat} {σ : L2.St} {H : Hp} {Q : VK} (e1 : σ[j1]? = some (some (.ref p))) (e2 : σ[j2]? = some (some (.ref q))) (hp : SqT K H p [.int a, .int b]) (hq : SqT K H q [.int c, .int d])
    (hw : ∀ x, wipe ((wipe σ vs).set i (some x)) vs = wipe σ vs)
    (elem : ∀ x ∈ [a, b, c, d], ∀ H', Same H H' → ∀ R : VK, (∀ H'', Same H' H'' → R (.int (g x)) H'') → te ((wipe σ vs).set i (some (.int x))) H' R)
    (k : ∀ (r : Addr) (H' : Hp), Same H H' → H' r = some (.lst (([a, b, c, d].map g).map V.int)) → Q (.ref r) H') : tLc (iTup K (tOp (rCatT K) (tVar j1) (tVar j2))) (gName i) tYes te vs σ H Q :=
  lc (it ⟨_, e1, _, e2, catP hp hq fun r hr => ⟨r, rfl, lcMapT (SqT.of (L2.upd_same)) rfl (by simp) hw (fun x hx H' S R kk => elem x hx H' (Same.trans (same_upd hr (Same.refl _)) S) R kk) fun r2 H' h2 S hl => k r2 H' (Same.trans (same_upd hr (Same.refl _)) S) hl⟩⟩)
theorem two {u v : V} {i : Nat} {x : V} (h : [u, v][i]? = some x) : x = u ∨ x = v := by
  rcases i with _ | _ | i
  · exact .inl (Option.some.inj h).symm
  · exact .inr (Option.some.inj h).symm
  · simp at h
theorem dp_b4 {K : PySem.W.Frag} {H : Hp} {p : Addr} {x y z w : Bool} (h : SqL K H p [.bl x, .bl y, .bl z, .bl w]) : Dp K H (.ref p) (.list [.bool x, .bool y, .bool z, .bool w]) := .lst h (.cons (.bl _) (.cons (.bl _) (.cons (.bl _) (.cons (.bl _) .nil))))
theorem shaped_b4 (x y z w : Bool) : SeqAt.shaped (.list [.bool x, .bool y, .bool z, .bool w]) = true := by
  simp only [SeqAt.shaped, PyData.canLay0, PyData.canLayAll0, PyData.depth, PyData.depthAll]
  rfl
theorem lessV (a b c d : Int) : (decide (a < c) || (decide (V.int a = V.int c) && decide (b < d))) = decide (a < c ∨ a = c ∧ b < d) := by
  rw [Bool.eq_iff_iff]
  simp
theorem told4 (a b c d : Int) : (!PyData.eqv (.list [.bool (decide (a < c ∨ a = c ∧ b < d)), .bool (decide (a < c ∨ a = c ∧ b ≤ d)), .bool (decide (c < a ∨ a = c ∧ d < b)), .bool (decide (c < a ∨ a = c ∧ d ≤ b))])
    (.list [.bool (decide (a < c ∨ a = c ∧ b < d)), .bool (decide (a < c ∨ a = c ∧ b < d) || PyData.eqv (.tuple [.int a, .int b]) (.tuple [.int c, .int d])), .bool (!decide (a < c ∨ a = c ∧ b < d) && !PyData.eqv (.tuple [.int a, .int b]) (.tuple [.int c, .int d])), .bool (!decide (a < c ∨ a = c ∧ b < d))])) = false := by
  have e : PyData.eqv (.tuple [.int a, .int b]) (.tuple [.int c, .int d]) = decide (a = c ∧ b = d) := by
    rw [eqv_pair, Bool.eq_iff_iff]
    simp
  have e1 : decide (a < c ∨ a = c ∧ b ≤ d) = (decide (a < c ∨ a = c ∧ b < d) || decide (a = c ∧ b = d)) := by
    rw [Bool.eq_iff_iff]
    simp only [Bool.or_eq_true, decide_eq_true_eq]
    omega
  have e2 : decide (c < a ∨ a = c ∧ d < b) = (!decide (a < c ∨ a = c ∧ b < d) && !decide (a = c ∧ b = d)) := by
    rw [Bool.eq_iff_iff]
    simp only [Bool.and_eq_true, Bool.not_eq_true', decide_eq_true_eq, decide_eq_false_iff_not]
    omega
  have e3 : decide (c < a ∨ a = c ∧ d ≤ b) = (!decide (a < c ∨ a = c ∧ b < d)) := by
    rw [Bool.eq_iff_iff]
    simp only [Bool.not_eq_true', decide_eq_true_eq, decide_eq_false_iff_not]
    omega
  rw [e, e1, e2, e3]
  simp [PyData.eqv, PyData.eqvAll]
theorem absB {x m : Int} (h : (if x < 0 then -x else x) ≤ m) : -m ≤ x ∧ x ≤ m := by
  split at h <;> omega
theorem ltAt {a b c d n m : Int} (hn : n = 1000000000 ∨ n = 1000000000000000000000000000000) (hm : m ≤ 1000000) (ha : -m ≤ a ∧ a ≤ m) (hb : -m ≤ b ∧ b ≤ m) (hc : -m ≤ c ∧ c ≤ m) (hd : -m ≤ d ∧ d ≤ m) : decide (a * n + b < c * n + d) = decide (a < c ∨ a = c ∧ b < d) := by
  rw [Bool.eq_iff_iff]
  simp only [decide_eq_true_eq]
  rcases hn with rfl | rfl <;> omega
theorem eqAt {a b c d n m : Int} (hn : n = 1000000000 ∨ n = 1000000000000000000000000000000) (hm : m ≤ 1000000) (ha : -m ≤ a ∧ a ≤ m) (hb : -m ≤ b ∧ b ≤ m) (hc : -m ≤ c ∧ c ≤ m) (hd : -m ≤ d ∧ d ≤ m) : decide (V.int (a * n + b) = V.int (c * n + d)) = (decide (V.int a = V.int c) && decide (V.int b = V.int d)) := by
  rw [Bool.eq_iff_iff]
  simp only [Bool.and_eq_true, decide_eq_true_eq, V.int.injEq]
  rcases hn with rfl | rfl <;> omega
end Rd
/-! ## max(xs, key=int) of a list of ints -/
namespace MxK
open PySem PySem.Spec PyProof.Rows L2
section
variable {prog : Program} {w : World} {A : Around} {E : Value → Shared → Prop} {s : Shared} {l I S : Addr} {vs : List Value} {ns : List Int} {Z : Result → Shared → Prop}
/-- what the walk keeps: the older objects, the best with its key in S, the walker's place in I -/
structure St (s : Shared) (l I S : Addr) (h : Heap) (j : Nat) (M : Int) (tv tb : Tok) : Prop where
  old : ∀ b o, s.heap.get? b = some o → h.get? b = some o
  sto : ∃ c, h.get? S = some (seqObj "list" #[.int M tv, .int M tb] c)
  itr : h.IsListIter I l j
theorem St.list {h : Heap} {j : Nat} {M : Int} {tv tb : Tok} (K : St s l I S h j M tv tb) (hl : s.heap.IsList l vs.toArray) : h.IsList l vs.toArray := by
  obtain ⟨o, e, r⟩ := hl
  exact ⟨o, K.old _ _ e, r⟩
theorem getD_of {ns : List Int} {i : Nat} {n : Int} (h : ns[i]? = some n) : ns.getD i 0 = n := by simp [h]
theorem item {i : Nat} {v : Value} (hi : IntsAre vs ns) (h : vs[i]? = some v) : ∃ t, v = .int (ns.getD i 0) t ∧ ns.getD i 0 ∈ ns := by
  have hlen := hi.length
  have h1 : i < vs.length := (List.getElem?_eq_some_iff.mp h).1
  have h2 : ns[i]? = some (ns[i]'(by omega)) := List.getElem?_eq_getElem (by omega)
  obtain ⟨t, ht⟩ := hi.get i _ h2
  rw [h] at ht
  cases ht
  exact ⟨t, by rw [getD_of h2], by rw [getD_of h2]; exact List.getElem_mem _⟩
theorem loop (hh : A.handled = none) (hl : s.heap.IsList l vs.toArray) (hi : IntsAre vs ns) (hlI : l ≠ I) (hSI : S ≠ I) (nS : s.heap.get? S = none) (nI : s.heap.get? I = none)
    (done : ∀ h' tk' M t, (∀ b o, s.heap.get? b = some o → h'.get? b = some o) → M ∈ ns → (∀ a ∈ ns, a ≤ M) → Z (.ok (.ret (.int M t))) { s with heap := h', toks := tk' }) :
    ∀ (r j : Nat) (h : Heap) (tk : Nat) (M : Int) (tv tb : Tok), vs.length - j = r → j ≤ vs.length → St s l I S h j M tv tb → M ∈ ns → (∀ i, i < j → ns.getD i 0 ≤ M) →
      codeAny (model prog w) A (.builtin "max.loop" ⟨[.ref I, .type "int", .ref S], []⟩) Z { s with heap := h, toks := tk } := by
  have nm : (toString "max" ++ toString ".loop" : String) = "max.loop" := by decide
  have Wk := Walks.list (prog := prog) (w := w) (A := A.in1) hh I l hlI vs.toArray
  have zs : vs.toArray.size = vs.length := List.size_toArray ..
  have hlen := hi.length
  intro r
  induction r with
  | zero =>
    intro j h tk M tv tb hr hj K hM hb
    have ej : j = vs.length := by omega
    obtain ⟨c, gS⟩ := K.sto
    refine codeAny_builtin PySem.F.entry_max_loop (?_ : _)
    rw [Around.under_plainId (PySem.F.plain_max_loop : _) _]
    show wpAny _ A.in1 (seqItems? (.ref S) >>= fun _ => _) _ _ _
    refine wpAny_bind (wpAny_seqItems gS rfl (?_ : _))
    show wpAny _ A.in1 (tryCatch (pyNext (.ref I)) _ >>= fun _ => _) _ _ _
    refine wpAny_bind (wpAny_tryCatch (Wk.done _ _ _ ⟨by rw [zs, ← ej]; exact K.itr, K.list hl⟩ fun h' tk' kept => ?_))
    have gS' := kept S _ (by simpa using hSI) gS
    have sb := Heap.SameBut.update h' S (Obj.mapSeq fun _ => (#[] : Array Value))
    show wpAny _ A.in1 (updateSeq S (fun _ => #[]) >>= fun _ => _) _ _ _
    refine wpAny_bind (wpAny_updateSeq gS' rfl (wpAny_bind (wpAny_letGo (wpAny_pure (done _ _ M tv (fun b o q => ?_) hM (fun a ha => ?_))))))
    · have nb : b ≠ S := fun z => by rw [z, nS] at q; cases q
      have ni : b ≠ I := fun z => by rw [z, nI] at q; cases q
      rw [sb.2 b nb]
      exact kept b o (by simpa using ni) (K.old b o q)
    · obtain ⟨i, hi1, rfl⟩ := List.getElem_of_mem ha
      have := hb i (by omega)
      rw [getD_of (List.getElem?_eq_getElem hi1)] at this
      exact this
  | succ r ih =>
    intro j h tk M tv tb hr hj K hM hb
    have lt : j < vs.length := by omega
    obtain ⟨c, gS⟩ := K.sto
    refine codeAny_builtin PySem.F.entry_max_loop (?_ : _)
    rw [Around.under_plainId (PySem.F.plain_max_loop : _) _]
    show wpAny _ A.in1 (seqItems? (.ref S) >>= fun _ => _) _ _ _
    refine wpAny_bind (wpAny_seqItems gS rfl (?_ : _))
    show wpAny _ A.in1 (tryCatch (pyNext (.ref I)) _ >>= fun _ => _) _ _ _
    refine wpAny_bind (wpAny_tryCatch (Wk.item j _ _ _ (by rw [zs]; exact lt) ⟨K.itr, K.list hl⟩ fun v h' tk' hP st kept => ?_))
    obtain ⟨t, rfl, hn⟩ := item hi (show vs[j]? = some v by simpa using hP)
    have gS' := kept S _ (by simpa using hSI) gS
    have K' : ∀ b o, s.heap.get? b = some o → h'.get? b = some o := fun b o q => by
      have ni : b ≠ I := fun z => by rw [z, nI] at q; cases q
      exact kept b o (by simpa using ni) (K.old b o q)
    have bN : ∀ x, M ≤ x → ns.getD j 0 ≤ x → ∀ i, i < j + 1 → ns.getD i 0 ≤ x := fun x h1 h2 i hi1 => by
      by_cases e : i = j
      · rw [e]; exact h2
      · exact Int.le_trans (hb i (by omega)) h1
    generalize hx : ns.getD j 0 = x at hn bN ⊢
    show wpAny _ A.in1 (tryCatch (holding [.int x t] (call (.type "int") [.int x t])) _ >>= fun _ => _) _ _ _
    refine wpAny_bind (wpAny_tryCatch (wpAny_holding (call_int_int ?_)))
    show wpAny _ A.in1 (tryCatch (holding [.int x t, .int x t] (richCompare .Gt (.int x t) (.int M tb) >>= fun _ => _)) _ >>= fun _ => _) _ _ _
    refine wpAny_bind (wpAny_tryCatch (wpAny_holding (wpAny_bind (PyProof.Rows.gt_int ?_))))
    refine wpAny_bind (wpAny_holding (wpAny_truthy_bool ?_))
    refine wpAny_bind (wpAny_letGo (wpAny_pure (?_ : _)))
    by_cases q : M < x
    · have sb := Heap.SameBut.update h' S (Obj.mapSeq fun _ => #[.int x t, .int x t])
      have gN : ∃ c2, (h'.update S (Obj.mapSeq fun _ => #[.int x t, .int x t])).get? S = some (seqObj "list" #[.int x t, .int x t] c2) := ⟨_, get?_update_seq gS' fun _ => #[.int x t, .int x t]⟩
      obtain ⟨oI, gI, oc, od⟩ := id st.1
      simp only [q, decide_true, if_true]
      refine wpAny_bind (wpAny_updateSeq gS' rfl (wpAny_bind (wpAny_letGo ?_)))
      rw [nm]
      refine wpAny_pure ⟨plainId_quiet (PySem.F.plain_max_loop : _) _, ih (j + 1) _ _ x t t (by omega) lt ⟨fun b o e => ?_, gN, ⟨oI, (sb.2 I hSI.symm).trans gI, oc, od⟩⟩ hn (bN x (by omega) (Int.le_refl _))⟩
      have nb : b ≠ S := fun z => by rw [z, nS] at e; cases e
      rw [sb.2 b nb]
      exact K' b o e
    · simp only [q, decide_false, Bool.false_eq_true, if_false]
      refine wpAny_bind (wpAny_letGo (?_ : _))
      rw [nm]
      exact wpAny_pure ⟨plainId_quiet (PySem.F.plain_max_loop : _) _, ih (j + 1) _ _ M tv tb (by omega) lt ⟨K', ⟨c, gS'⟩, st.1⟩ hM (bN M (Int.le_refl _) (by omega))⟩
theorem max_key_int {Q : Value → Shared → Prop} (hh : A.handled = none) (hl : s.heap.IsList l vs.toArray) (hi : IntsAre vs ns) (hne : 0 < ns.length)
    (k : ∀ h' tk' M t, (∀ b o, s.heap.get? b = some o → h'.get? b = some o) → M ∈ ns → (∀ a ∈ ns, a ≤ M) → Q (.int M t) { s with heap := h', toks := tk' }) :
    wpAny (model prog w) A (call (.builtin "max") [.ref l] [(Str.ofString "key", .type "int")]) Q E s := by
  have nm : (toString "max" ++ toString ".loop" : String) = "max.loop" := by decide
  obtain ⟨ol, el, _⟩ := id hl
  have hlen := hi.length
  have ll : l < s.heap.objs.size := Heap.lt_size el
  refine kmb_tree PySem.F.kind_max PySem.F.plain_max PySem.F.entry_max (kmb_max_key _ _) (?_ : _)
  show wpAny _ A.in1 (Builtin.Builtins.bindParams "max" ["key", "default"] 0 ⟨[], [(Str.ofString "key", .type "int")]⟩ >>= fun _ => _) _ _ s
  refine wpAny_bind (wpAny_of_eq (show Builtin.Builtins.bindParams "max" ["key", "default"] 0 ⟨[], [(Str.ofString "key", .type "int")]⟩ = pure [some (.type "int"), none] from rfl) (wpAny_bind (wpAny_pure ?_)))
  refine wpAny_bind (wpAny_pyIter_list hl (wpAny_bind (wpAny_newList ?_ (Nat.zero_le _))))
  rw [nm]
  generalize hG : s.heap.push { cls := .type "list_iterator", data := .fields #[.ref l, .int 0 0] } = G
  have gz : G.objs.size = s.heap.objs.size + 1 := by rw [← hG]; exact size_push' ..
  have gI0 : G.get? s.heap.objs.size = some { cls := .type "list_iterator", data := .fields #[.ref l, .int 0 0] } := by rw [← hG]; exact Heap.get?_push_size _ rfl
  have gI : (G.push (seqObj "list" #[] 0)).get? s.heap.objs.size = some { cls := .type "list_iterator", data := .fields #[.ref l, .int 0 0] } := Heap.get?_push_of_some _ gI0
  have gS : (G.push (seqObj "list" #[] 0)).get? G.objs.size = some (seqObj "list" #[] 0) := Heap.get?_push_size _ rfl
  have old : ∀ b o, s.heap.get? b = some o → (G.push (seqObj "list" #[] 0)).get? b = some o := fun b o e => by
    rw [← hG]
    exact Heap.get?_push_of_some _ (Heap.get?_push_of_some _ e)
  have hlI : l ≠ s.heap.objs.size := Nat.ne_of_lt ll
  have hSI : G.objs.size ≠ s.heap.objs.size := by omega
  have nI : s.heap.get? s.heap.objs.size = none := Heap.get?_none_of_le (Nat.le_refl _)
  have nS : s.heap.get? G.objs.size = none := Heap.get?_none_of_le (by omega)
  have Wk := Walks.list (prog := prog) (w := w) (A := A.in1) hh s.heap.objs.size l hlI vs.toArray
  have zs : vs.toArray.size = vs.length := List.size_toArray ..
  refine wpAny_pure ⟨plainId_quiet (PySem.F.plain_max_loop : _) _, codeAny_builtin PySem.F.entry_max_loop (?_ : _)⟩
  rw [Around.under_plainId (PySem.F.plain_max_loop : _) _]
  show wpAny _ A.in1 (seqItems? (.ref _) >>= fun _ => _) _ _ _
  refine wpAny_bind (wpAny_seqItems gS rfl (?_ : _))
  show wpAny _ A.in1 (tryCatch (pyNext (.ref s.heap.objs.size)) _ >>= fun _ => _) _ _ _
  have ol2 : (G.push (seqObj "list" #[] 0)).IsList l vs.toArray := by
    obtain ⟨o, e, z⟩ := id hl
    exact ⟨o, old _ _ e, z⟩
  refine wpAny_bind (wpAny_tryCatch (Wk.item 0 _ _ _ (by rw [zs]; omega) ⟨⟨_, gI, rfl, rfl⟩, ol2⟩ fun v h' tk' hP st kept => ?_))
  obtain ⟨t, rfl, hn⟩ := item hi (show vs[0]? = some v by simpa using hP)
  have gS' := kept _ _ (by simpa using hSI) gS
  generalize hx : ns.getD 0 0 = x at hn ⊢
  show wpAny _ A.in1 (tryCatch (holding [.int x t] (call (.type "int") [.int x t])) _ >>= fun _ => _) _ _ _
  refine wpAny_bind (wpAny_tryCatch (wpAny_holding (call_int_int ?_)))
  have sb := Heap.SameBut.update h' G.objs.size (Obj.mapSeq fun _ => #[.int x t, .int x t])
  have gN : ∃ c2, (h'.update G.objs.size (Obj.mapSeq fun _ => #[.int x t, .int x t])).get? G.objs.size = some (seqObj "list" #[.int x t, .int x t] c2) := ⟨_, get?_update_seq gS' fun _ => #[.int x t, .int x t]⟩
  obtain ⟨oI, gI', oc, od⟩ := id st.1
  show wpAny _ A.in1 (updateSeq G.objs.size (fun _ => #[.int x t, .int x t]) >>= fun _ => _) _ _ _
  refine wpAny_bind (wpAny_updateSeq gS' rfl (?_ : _))
  rw [nm]
  refine wpAny_pure ⟨plainId_quiet (PySem.F.plain_max_loop : _) _, loop hh hl hi hlI hSI nS nI (fun h2 tk2 M t2 q hM hb => k h2 tk2 M t2 q hM hb) _ 1 _ _ x t t rfl (by omega) ⟨fun b o e => ?_, gN, ⟨oI, (sb.2 _ hSI.symm).trans gI', oc, od⟩⟩ hn (fun i hi1 => ?_)⟩
  · have nb : b ≠ G.objs.size := fun z => by rw [z, nS] at e; cases e
    have ni : b ≠ s.heap.objs.size := fun z => by rw [z, nI] at e; cases e
    rw [sb.2 b nb]
    exact kept b o (by simpa using ni) (old b o e)
  · have e : i = 0 := by omega
    rw [e, hx]
    exact Int.le_refl _
end
def rMaxK (K : PySem.W.Frag) : List V → List V → Hp → VK → Prop := fun vs zs H Q => ∃ (a : Addr) (ns : List Int), vs = [V.ref a] ∧ zs = [.ty "int"] ∧ SqL K H a (ns.map V.int) ∧ 0 < ns.length ∧ ∀ m, m ∈ ns → (∀ y, y ∈ ns → y ≤ m) → Q (.int m) H
theorem ck_max {X : Cx} (hc : X.calm = true) : CallRK X (.builtin "max") ["key"] (rMaxK X.K) := by
  intro pins s σ H xs zs us ws Q I r r2 h
  obtain ⟨a, ns, rfl, rfl, hs, hne, q⟩ := h
  obtain ⟨its, rv, hl, _⟩ := I.list hs
  obtain ⟨u, rfl, ru⟩ := vals1 r2
  cases ru
  rw [Vals.ref1 r]
  exact max_key_int (I.ok.hd hc) hl.isList rv.ints hne fun h' tk m t' hk h1 h2 => ⟨.int _, H, I.kept hk, ⟨_, rfl⟩, q m h1 h2⟩
end MxK
/-! ## an object of a built-in type without the number's slot, left of an own instance -/
namespace Own
open PySem PySem.Spec PyProof.Rows
section
variable {prog : Program} {w : World} {A : Around} {E : Value → Shared → Prop} {s : Shared} {K : PySem.W.Frag} {x C dx f f0 : Addr} {od : Option Obj} {op : Operator} {T : String}
theorem binR0 {a : Value} {Q : Value → Shared → Prop} (KX : K.In s.heap) (I : PySem.W.InstAt s.heap x (PySem.W.instObj C dx) C od) (hc : PySem.W.selfFirst K C = true) (ta : PySem.W.Looks (model prog w) s.heap (typeOf a) (.type T))
    (h0 : PySem.W.findIn K (.ref C) (PySem.dunder op.info.2) = some (some (.ref f0))) (h1 : PySem.W.findIn K (.ref C) (dunderR op.info.2) = some (some (.ref f))) (hf : PySem.W.isFn K (.ref f) = true)
    (hfill : PySem.W.Looks (model prog w) s.heap (fillsNumberSlot (.type T) op.info.2) false)
    (h : wpAny (model prog w) A (call (.ref f) [.ref x, a]) (PySem.W.CmpBack Q) E s) : wpAny (model prog w) A (binaryOp op a (.ref x)) Q E s := by
  obtain ⟨cd, rest, hcd, hm⟩ := PySem.W.ksp_first hc
  rcases hi : op.info with ⟨sym, nm⟩
  rw [hi] at h0 h1 hfill
  dsimp only at h0 h1 hfill
  have two := PySem.W.ksp_try KX I h1 hf h
  obtain ⟨hh, g, d, tt, os⟩ := s
  have L1 : PySem.W.Looks (model prog w) hh (typeOf (.ref x)) (.ref C) := I.type
  have L3 : PySem.W.Looks (model prog w) hh (fillsNumberSlot (.ref C) nm) true := PySem.W.fills_K KX hcd hm h0
  have nc : (Value.type T == Value.ref C) = false := Bool.eq_false_iff.mpr fun q => nomatch beq_iff_eq.mp q
  simp only [binaryOp, hi]
  refine wpAny_holding (wpAny_bind (?_ : _))
  unfold binaryOp1
  refine wpAny_bind (ta.at (wpAny_bind (L1.at (wpAny_bind (hfill.at ?_)))))
  simp only [nc, Bool.false_eq_true, if_false]
  refine wpAny_bind (L3.at (?_ : _))
  simp only [Bool.false_and, Bool.false_eq_true, if_false, pure_bind, Bool.not_false, Bool.and_self, if_true]
  refine wpAny_bind (wpAny_mono two (fun r s' q => ?_) fun _ _ e => e)
  obtain ⟨v, rfl, q⟩ := q
  exact wpAny_bind (wpAny_rule (wpAny_pure (wpAny_pure q)))
end
end Own
namespace Own
open PySem PySem.Spec PyProof.Rows L2
section
variable {prog : Program} {w : World} {A : Around} {E : Value → Shared → Prop} {s : Shared} {K : PySem.W.Frag} {x C dx f f0 : Addr} {od : Option Obj} {op : Operator} {T : String}
theorem binT0 {b : Value} {Q : Value → Shared → Prop} (KX : K.In s.heap) (I : PySem.W.InstAt s.heap x (PySem.W.instObj C dx) C od) (hc : PySem.W.selfFirst K C = true) (tb : PySem.W.Looks (model prog w) s.heap (typeOf b) (.type T))
    (h0 : PySem.W.findIn K (.ref C) (PySem.dunder op.info.2) = some (some (.ref f))) (hf : PySem.W.isFn K (.ref f) = true) (hfill : PySem.W.Looks (model prog w) s.heap (fillsNumberSlot (.type T) op.info.2) false)
    (h : wpAny (model prog w) A (call (.ref f) [.ref x, b]) (PySem.W.CmpBack Q) E s) : wpAny (model prog w) A (binaryOp op (.ref x) b) Q E s := by
  obtain ⟨cd, rest, hcd, hm⟩ := PySem.W.ksp_first hc
  rcases hi : op.info with ⟨sym, nm⟩
  rw [hi] at h0 hfill
  dsimp only at h0 hfill
  have one := PySem.W.ksp_try KX I h0 hf h
  obtain ⟨hh, g, d, tt, os⟩ := s
  have L1 : PySem.W.Looks (model prog w) hh (typeOf (.ref x)) (.ref C) := I.type
  have L3 : PySem.W.Looks (model prog w) hh (fillsNumberSlot (.ref C) nm) true := PySem.W.fills_K KX hcd hm h0
  have nc : (Value.ref C == Value.type T) = false := Bool.eq_false_iff.mpr fun q => nomatch beq_iff_eq.mp q
  simp only [binaryOp, hi]
  refine wpAny_holding (wpAny_bind (?_ : _))
  unfold binaryOp1
  refine wpAny_bind (L1.at (wpAny_bind (tb.at (wpAny_bind (L3.at (?_ : _))))))
  simp only [nc, Bool.false_eq_true, if_false]
  refine wpAny_bind (hfill.at (?_ : _))
  simp only [Bool.and_false, Bool.false_and, Bool.false_eq_true, if_false, pure_bind, Bool.not_false, Bool.and_self, if_true]
  refine wpAny_bind (wpAny_mono one (fun r s' q => ?_) fun _ _ e => e)
  obtain ⟨v, rfl, q⟩ := q
  exact wpAny_pure (wpAny_pure q)
end
section
variable {X : Cx} {CX : CXT} {k : Nat} {f C : Addr} {fd : FuncData} {ps : List Str} {sp : Sp} {E : XK} {op : Operator} {Ts : List String}
/-- built-in types that have no number's slot -/
structure NoSlot (K : PySem.W.Frag) (op : Operator) (T : String) : Prop where
  l : ∃ fo ro, PySem.W.findIn K (.type T) (PySem.dunder op.info.2) = some fo ∧ PySem.W.findIn K (.type T) (dunderR op.info.2) = some ro ∧ ((fo.isSome && !isSeqSlot fo) || (ro.isSome && !isSeqSlot ro)) = false
theorem NoSlot.fills {K : PySem.W.Frag} {T : String} {M : Model} {h : Heap} (Z : NoSlot K op T) (KX : K.In h) : PySem.W.Looks M h (fillsNumberSlot (.type T) op.info.2) false := by
  obtain ⟨fo, ro, h1, h2, e⟩ := Z.l
  have z := PySem.W.ksp_fillsT (M := M) KX h1 h2
  rw [e] at z
  exact z
/-- any object of such a type left of an own instance: the reflected operator is asked -/
def rOddL (K : PySem.W.Frag) (C : Addr) (Ts : List String) (sp : Sp) (E : XK) : R2 := fun x y H Q => ∃ a dx fs T, y = .ref a ∧ H a = some (.ins C dx fs) ∧ T ∈ Ts ∧ TyX K H x (.type T) ∧ sp [.ref a, x] H Q E
theorem opL0 (F : FnOk X.prog X.w X.K X.mg X.base CX k f fd ps sp) (hr : Room k X.A) (Z : BinR X.K C f op) (N : ∀ T ∈ Ts, NoSlot X.K op T) (hb : Binds X.K fd ps []) (hx : Passes CX X E) : OpR X (binaryOp op) (rOddL X.K C Ts sp E) := by
  rintro pins s σ H x y u v Q I rx ry ⟨a, dx, fs, T, rfl, ha, hT, ty, q⟩
  cases ry
  obtain ⟨od, J⟩ := inst I ha
  obtain ⟨z1, ⟨f0, z2⟩, z3, z4, z5⟩ := Z
  exact binR0 I.kIn J z1 (typed I rx ty) z2 z3 z4 ((N T hT).fills I.kIn) (back (run2 (x := .ref a) F hr hb hx I rfl rx q))
/-- any object of such a type right of an own instance -/
def rOddR (K : PySem.W.Frag) (C : Addr) (Ts : List String) (sp : Sp) (E : XK) : R2 := fun x y H Q => ∃ a dx fs T, x = .ref a ∧ H a = some (.ins C dx fs) ∧ T ∈ Ts ∧ TyX K H y (.type T) ∧ sp [.ref a, y] H Q E
theorem opR0 (F : FnOk X.prog X.w X.K X.mg X.base CX k f fd ps sp) (hr : Room k X.A) (B : Bin X.K C f op) (N : ∀ T ∈ Ts, NoSlot X.K op T) (hb : Binds X.K fd ps []) (hx : Passes CX X E) : OpR X (binaryOp op) (rOddR X.K C Ts sp E) := by
  rintro pins s σ H x y u v Q I rx ry ⟨a, dx, fs, T, rfl, ha, hT, ty, q⟩
  cases rx
  obtain ⟨od, J⟩ := inst I ha
  exact binT0 I.kIn J B.first (typed I ry ty) B.at_ B.fn ((N T hT).fills I.kIn) (back (run2 (x := .ref a) F hr hb hx I rfl ry q))
end
end Own
namespace Own
open PySem PySem.Spec PyProof.Rows
section
variable {prog : Program} {w : World} {A : Around} {E : Value → Shared → Prop} {s : Shared} {K : PySem.W.Frag} {x C dx f f0 : Addr} {od : Option Obj} {op : Operator} {id : String}
theorem declB_add {b : Bool} {Q : Shared → Prop} (h : s.heap.get? x = some (PySem.W.instObj C dx)) (hq : Q s) :
    wpAny (model prog w) A (Builtin.«int.__add__» ⟨[.bool b, .ref x], []⟩) (fun fin s' => ∃ v, fin = .done (.ret v) ∧ v = .notImplemented ∧ Q s') E s := by
  obtain ⟨hp, g, d, tk, os⟩ := s
  wp_walk using wpAny_load h
  exact ⟨_, rfl, rfl, hq⟩
theorem declB_sub {b : Bool} {Q : Shared → Prop} (h : s.heap.get? x = some (PySem.W.instObj C dx)) (hq : Q s) :
    wpAny (model prog w) A (Builtin.«int.__sub__» ⟨[.bool b, .ref x], []⟩) (fun fin s' => ∃ v, fin = .done (.ret v) ∧ v = .notImplemented ∧ Q s') E s := by
  obtain ⟨hp, g, d, tk, os⟩ := s
  wp_walk using wpAny_load h
  exact ⟨_, rfl, rfl, hq⟩
theorem declB_mul {b : Bool} {Q : Shared → Prop} (h : s.heap.get? x = some (PySem.W.instObj C dx)) (hq : Q s) :
    wpAny (model prog w) A (Builtin.«int.__mul__» ⟨[.bool b, .ref x], []⟩) (fun fin s' => ∃ v, fin = .done (.ret v) ∧ v = .notImplemented ∧ Q s') E s := by
  obtain ⟨hp, g, d, tk, os⟩ := s
  wp_walk using wpAny_load h
  exact ⟨_, rfl, rfl, hq⟩
theorem slotB_add : Slot "bool" "__add__" "int.__add__" :=
  .of (T := "bool") (name := "__add__") (owner := "int") (n := "__add__") (by rw [typeLookup_type, builtinLookup_eq_fast]; kernel_rfl) (by decide +kernel) (by decide +kernel) (by decide +kernel) (.inl (by decide +kernel)) (by rw [isSubtype_type]; kernel_rfl)
theorem slotB_sub : Slot "bool" "__sub__" "int.__sub__" :=
  .of (T := "bool") (name := "__sub__") (owner := "int") (n := "__sub__") (by rw [typeLookup_type, builtinLookup_eq_fast]; kernel_rfl) (by decide +kernel) (by decide +kernel) (by decide +kernel) (.inl (by decide +kernel)) (by rw [isSubtype_type]; kernel_rfl)
theorem slotB_mul : Slot "bool" "__mul__" "int.__mul__" :=
  .of (T := "bool") (name := "__mul__") (owner := "int") (n := "__mul__") (by rw [typeLookup_type, builtinLookup_eq_fast]; kernel_rfl) (by decide +kernel) (by decide +kernel) (by decide +kernel) (.inl (by decide +kernel)) (by rw [isSubtype_type]; kernel_rfl)
end
end Own
namespace Own
open PySem PySem.Spec PyProof.Rows
section
variable {prog : Program} {w : World} {A : Around} {E : Value → Shared → Prop} {s : Shared} {K : PySem.W.Frag} {x C dx f f0 : Addr} {od : Option Obj} {op : Operator} {id : String}
/-- a truth declines an operator beside an instance, then the instance's reflected one is asked -/
theorem binRB {p : Bool} {Q : Value → Shared → Prop} (KX : K.In s.heap) (I : PySem.W.InstAt s.heap x (PySem.W.instObj C dx) C od) (hc : PySem.W.selfFirst K C = true)
    (h0 : PySem.W.findIn K (.ref C) (PySem.dunder op.info.2) = some (some (.ref f0))) (h1 : PySem.W.findIn K (.ref C) (dunderR op.info.2) = some (some (.ref f))) (hf : PySem.W.isFn K (.ref f) = true)
    (hsub : PySem.W.subIn K (.ref C) (.type "bool") = some false) (hfill : fillsNumberSlot (.type "bool") op.info.2 = pure true) (slot : Slot "bool" (PySem.dunder op.info.2) id)
    (decl : wpAny (model prog w) A (call (.builtin id) [.bool p, .ref x]) (fun v s' => v = .notImplemented ∧ s'.heap = s.heap ∧ s'.gens = s.gens ∧ s'.drawn = s.drawn ∧ s'.os = s.os ∧ s'.toks = s.toks) E s)
    (h : wpAny (model prog w) A (call (.ref f) [.ref x, .bool p]) (PySem.W.CmpBack Q) E s) : wpAny (model prog w) A (binaryOp op (.bool p) (.ref x)) Q E s := by
  obtain ⟨cd, rest, hcd, hm⟩ := PySem.W.ksp_first hc
  rcases hi : op.info with ⟨sym, nm⟩
  rw [hi] at h0 h1 hfill slot
  dsimp only at h0 h1 hfill slot
  have two := PySem.W.ksp_try KX I h1 hf h
  obtain ⟨hh, g, d, tt, os⟩ := s
  have L1 : PySem.W.Looks (model prog w) hh (typeOf (.ref x)) (.ref C) := I.type
  have L3 : PySem.W.Looks (model prog w) hh (fillsNumberSlot (.ref C) nm) true := PySem.W.fills_K KX hcd hm h0
  have L5 : PySem.W.Looks (model prog w) hh (isSubtype (.ref C) (.type "bool")) false := PySem.W.looks_subIn KX hsub
  have hne : (Value.type "bool" == Value.ref C) = false := Bool.eq_false_iff.mpr fun q => by cases beq_iff_eq.mp q
  have hpy : numberSlotInPython (.type "bool") nm = pure false := rfl
  have one : wpAny (model prog w) A (tryMethod (.bool p) (PySem.dunder nm) (.ref x)) (fun r s' => r = none ∧ s'.heap = hh ∧ s'.gens = g ∧ s'.drawn = d ∧ s'.os = os ∧ s'.toks = tt) E ⟨hh, g, d, tt, os⟩ :=
    wpAny_tryMethod_declines (T := "bool") (typeIs_bool' _ p) slot (wpAny_mono decl (fun v s' q => ⟨q.1, rfl, q.2⟩) fun _ _ e => e)
  simp only [binaryOp, hi]
  refine wpAny_holding (wpAny_bind ?_)
  unfold binaryOp1
  refine wpAny_bind (wpAny_typeOf (typeIs_bool' _ p) (wpAny_bind (L1.at (wpAny_bind (wpAny_of_eq hfill ?_)))))
  simp only [hne, Bool.false_eq_true, if_false]
  refine wpAny_bind (L3.at ?_)
  simp only [Bool.and_self, if_true]
  refine wpAny_bind (L5.at ?_)
  simp only [Bool.false_eq_true, if_false, pure_bind, Bool.not_false, Bool.and_self, if_true, hpy]
  refine wpAny_bind (wpAny_mono one (fun r s' q => ?_) fun _ _ e => e)
  obtain ⟨h1, g1, d1, t1, o1⟩ := s'
  obtain ⟨rfl, q1, q2, q3, q4, q5⟩ := q
  dsimp only at q1 q2 q3 q4 q5
  subst q1 q2 q3 q4 q5
  dsimp only
  refine wpAny_bind (wpAny_mono two (fun r s' q => ?_) fun _ _ e => e)
  obtain ⟨v, rfl, q⟩ := q
  exact wpAny_bind (wpAny_rule (wpAny_pure (wpAny_pure q)))
end
end Own
namespace Own
open PySem PySem.Spec PyProof.Rows L2
section
variable {X : Cx} {CX : CXT} {k : Nat} {f C : Addr} {fd : FuncData} {ps : List Str} {sp : Sp} {E : XK} {op : Operator}
def rRightB (C : Addr) (sp : Sp) (E : XK) : R2 := fun x y H Q => ∃ i a dx fs, x = .bl i ∧ y = .ref a ∧ H a = some (.ins C dx fs) ∧ sp [.ref a, .bl i] H Q E
theorem opRB_of {id : String} {B : Builtin} (hfill : fillsNumberSlot (.type "bool") op.info.2 = pure true) (slot : Slot "bool" (PySem.dunder op.info.2) id) (entry : entryFor table id = some B) (args : ∀ a b : Value, argsOk id ⟨[a, b], []⟩)
    (decl : ∀ {prog : Program} {w : World} {A : Around} {E : Value → Shared → Prop} {s : Shared} {x C dx : Addr} {p : Bool} {Q : Shared → Prop}, s.heap.get? x = some (PySem.W.instObj C dx) → Q s →
      wpAny (model prog w) A (B ⟨[.bool p, .ref x], []⟩) (fun fin s' => ∃ v, fin = .done (.ret v) ∧ v = .notImplemented ∧ Q s') E s)
    (F : FnOk X.prog X.w X.K X.mg X.base CX k f fd ps sp) (hr : Room k X.A) (Z : BinR X.K C f op) (zb : PySem.W.subIn X.K (.ref C) (.type "bool") = some false) (hb : Binds X.K fd ps []) (hx : Passes CX X E) : OpR X (binaryOp op) (rRightB C sp E) := by
  rintro pins s σ H x y u v Q I rx ry ⟨i, a, dx, fs, rfl, rfl, ha, q⟩
  cases (show u = Value.bool i from rx)
  cases ry
  obtain ⟨od, J⟩ := inst I ha
  obtain ⟨z1, ⟨f0, z2⟩, z3, z4, z5⟩ := Z
  exact binRB I.kIn J z1 z2 z3 z4 zb hfill slot (wpAny_call_entry slot (typeIs_bool' s i) entry (wpAny_mono (decl (Q := fun s' => s'.heap = s.heap ∧ s'.gens = s.gens ∧ s'.drawn = s.drawn ∧ s'.os = s.os ∧ s'.toks = s.toks) J.at_ ⟨rfl, rfl, rfl, rfl, rfl⟩) (fun fin s' ⟨v, e, q⟩ => ⟨v, e, q⟩) fun _ _ e => e) (args _ _))
    (back (run2 (x := .ref a) (y := .bl i) F hr hb hx I rfl rfl q))
theorem opRBadd (F : FnOk X.prog X.w X.K X.mg X.base CX k f fd ps sp) (hr : Room k X.A) (Z : BinR X.K C f .Add) (zb : PySem.W.subIn X.K (.ref C) (.type "bool") = some false) (hb : Binds X.K fd ps []) (hx : Passes CX X E) : OpR X (binaryOp .Add) (rRightB C sp E) :=
  opRB_of PySem.F.fills_bool_add slotB_add PySem.F.entry_int_add PySem.F.args_int_add_2 declB_add F hr Z zb hb hx
theorem opRBsub (F : FnOk X.prog X.w X.K X.mg X.base CX k f fd ps sp) (hr : Room k X.A) (Z : BinR X.K C f .Sub) (zb : PySem.W.subIn X.K (.ref C) (.type "bool") = some false) (hb : Binds X.K fd ps []) (hx : Passes CX X E) : OpR X (binaryOp .Sub) (rRightB C sp E) :=
  opRB_of PySem.F.fills_bool_sub slotB_sub PySem.F.entry_int_sub PySem.F.args_int_sub_2 declB_sub F hr Z zb hb hx
theorem opRBmul (F : FnOk X.prog X.w X.K X.mg X.base CX k f fd ps sp) (hr : Room k X.A) (Z : BinR X.K C f .Mult) (zb : PySem.W.subIn X.K (.ref C) (.type "bool") = some false) (hb : Binds X.K fd ps []) (hx : Passes CX X E) : OpR X (binaryOp .Mult) (rRightB C sp E) :=
  opRB_of PySem.F.fills_bool_mul slotB_mul PySem.F.entry_int_mul PySem.F.args_int_mul_2 declB_mul F hr Z zb hb hx
end
end Own
/-! ## [x for x, b in zip(xs, bs) if b], bs a list of truths -/
namespace Rd
open PySem PySem.Spec PyProof.Rows L2
theorem wipe2 {σ : L2.St} {i j : Nat} {a b : Option V} (h : i ≠ j) : wipe (((wipe σ [i, j]).set i a).set j b) [i, j] = wipe σ [i, j] := by
  show (((((σ.set j none).set i none).set i a).set j b).set j none).set i none = (σ.set j none).set i none
  rw [List.set_set, List.set_set, List.set_comm _ _ h, List.set_set, List.set_set]
theorem lcZip {names : List V} {bs : List Bool} {K : PySem.W.Frag} {a b : Addr} {i1 i2 j1 j2 : Nat} {σ : L2.St} {H : Hp} {Q : VK} (hl : names.length = bs.length) (hn : names.length ≤ 1000) (e1 : σ[j1]? = some (some (.ref a))) (e2 : σ[j2]? = some (some (.ref b)))
    (h1 : SqL K H a names) {ws : List V} (h2' : SqL K H b ws) (ew : ws = bs.map V.bl)
    (hij : i1 ≠ i2) (li : i1 < σ.length) (lj : i2 < σ.length)
    (k : ∀ (p : Addr) (H' : Hp), H p = none → Same H H' → H' p = some (.lst (((names.zip bs).filter (·.2)).map (·.1))) → Q (.ref p) H') :
    tLc (iZip K (tCons (tVar j1) (tCons (tVar j2) tNil))) (gTup K 2 (gCons (gName i1) (gCons (gName i2) gNil))) (tB (tVar i2)) (tVar i1) [i1, i2] σ H Q := by
  subst ew
  have h2 := h2'
  have hw : ∀ x y, wipe (((wipe σ [i1, i2]).set i1 (some x)).set i2 (some y)) [i1, i2] = wipe σ [i1, i2] := fun x y => wipe2 hij
  have g1 : ∀ x y, (((wipe σ [i1, i2]).set i1 (some x)).set i2 (some y))[i1]? = some (some x) := fun x y => by
    rw [List.getElem?_set_ne (Ne.symm hij), List.getElem?_set_self (by rw [wipe_length]; exact li)]
  have g2 : ∀ x y, (((wipe σ [i1, i2]).set i1 (some x)).set i2 (some y))[i2]? = some (some y) := fun x y => by
    rw [List.getElem?_set_self (by rw [List.length_set, wipe_length]; exact lj)]
  refine lc ⟨_, e1, _, e2, a, b, _, _, rfl, h1, h2, fun D hD => lc_it (walk_zip (n := names.length) (by rw [List.length_map, ← hl, Nat.min_self])) (fun t H' => Same H H' ∧ H' D = some (.lst ((((names.zip bs).take t).filter (·.2)).map (·.1)))) ⟨same_upd hD (Same.refl _), upd_same⟩
    (fun t H' _ p => ⟨p.1.seq h1, p.1.seq h2⟩) (fun t v H0 H' ht p y => ?_) (fun H' p => ?_)⟩
  · obtain ⟨S, hd⟩ := p
    obtain ⟨T, x, y, rfl, hT, rfl, hx, hy⟩ := y
    dsimp only at hx hy
    have htb : t < bs.length := by omega
    have ey : y = .bl bs[t] := by
      rw [List.getElem?_map, List.getElem?_eq_getElem htb] at hy
      exact (Option.some.inj hy).symm
    subst ey
    have ex : names[t] = x := by
      rw [List.getElem?_eq_getElem ht] at hx
      exact Option.some.inj hx
    have nd : D ≠ T := ne_of_none hd hT
    have S' : Same H (upd H0 T (.tup [x, .bl bs[t]])) := same_upd (Same.free S hT) S
    have hd' : upd H0 T (.tup [x, .bl bs[t]]) D = some (.lst ((((names.zip bs).take t).filter (·.2)).map (·.1))) := by rw [upd_ne nd]; exact hd
    have tk : (names.zip bs).take (t + 1) = (names.zip bs).take t ++ [(x, bs[t])] := by
      rw [List.take_add_one, List.getElem?_eq_getElem (by rw [List.length_zip]; omega), List.getElem_zip, ex]
      rfl
    refine gtup (SqT.of upd_same) rfl (gcons (name (gcons (name (gnil ⟨hw _ _, tb (var (g2 _ _) (bl ?_))⟩)))))
    cases hb : bs[t] with
    | true =>
      rw [hb] at hd' S' tk
      refine iteT rfl (var (g1 _ _) ⟨_, hd', ?_, same_upd hD S', ?_⟩)
      · rw [List.length_map]
        refine small1000 (Nat.le_trans (List.length_filter_le _ _) ?_)
        rw [List.length_take, List.length_zip]
        omega
      · rw [upd_same, tk, List.filter_append, List.map_append]
        rfl
    | false =>
      rw [hb] at hd' S' tk
      refine iteF rfl ⟨S', ?_⟩
      rw [hd', tk, List.filter_append, List.map_append]
      simp
  · obtain ⟨S, hd⟩ := p
    rw [List.take_of_length_le (by rw [List.length_zip]; omega)] at hd
    exact k D H' hD S hd
end Rd
/-! ## isinstance of a caught error whatever its class; a call of a def that a name holds, whatever it is -/
namespace Ex2
open PySem PySem.Spec PyProof.Rows L2
def rIsE2 (K : PySem.W.Frag) (cls : Value) (d : Option Addr) (a : Addr) : List V → Hp → VK → Prop := fun xs H Q => ∃ D, cls = .ref D ∧ d = none ∧ ExcC K D ∧ rIsE K D a xs H Q
theorem call_isE2 {X : Cx} {K : PySem.W.Frag} (eK : X.K = K) {a : Addr} {cls : Value} {d : Option Addr} {oe : Obj} {pn : List (Addr × Obj)} (hz : Zc cls d oe) (hf : ∃ vs, oe.data = .fields vs) : CallR (X.suite a ((a, oe) :: pn)) (.builtin "isinstance") (rIsE2 K cls d a) := by
  subst eK
  rintro pins s σ H xs us Q I r ⟨D, rfl, rfl, C, q⟩
  exact call_isE C hz hf pins s σ H xs us Q I r q
/-- a def at f keeps sp, and may let errors out as sp says -/
structure HeldX (P : Program) (w : World) (K : PySem.W.Frag) (mg : Str → Option Value) (base : Heap) (k : Nat) (f : Addr) (sp : Sp) : Prop where
  ex : ∃ (j : Nat) (fd : FuncData) (ps : List Str), j ≤ k ∧ FnOk P w K mg base (L2.CX P w) j f fd ps sp ∧ PySem.W.keepIn K (.ref f) = true ∧ Binds K fd ps []
def tCallX (P : Program) (w : World) (K : PySem.W.Frag) (mg : Str → Option Value) (base : Heap) (k i : Nat) (E : L2.St → XK) (t : TA) : TE := fun σ H Q => ∃ f sp, HeldX P w K mg base k f sp ∧ σ[i]? = some (some (.ref f)) ∧ t σ H fun vs H1 => sp vs H1 Q (E σ)
section
variable {X : Cx} {k i : Nat} {E : L2.St → XK} {x : Str} {p pos : Pos} {e : Expr} {es : List Expr} {t : TA}
theorem pe_callX {P : Program} {w : World} {K : PySem.W.Frag} {mg : Str → Option Value} {base : Heap} (e1 : X.prog = P) (e2 : X.w = w) (e3 : X.K = K) (e4 : X.mg = mg) (e5 : X.base = base) (hr : Room k X.A) (hN : X.N[i]? = some x) (hv : Vis X.env.scope x) (hx : ∀ σ, PassesAt (L2.CX X.prog X.w) X σ (E σ)) (ha : PA X (e :: es) t)
    (h1 : (x == ("__debug__" : Str)) = false := by decide) (h2 : (x == ("__classdict__" : Str)) = false := by decide) (h3 : starEach (e :: es) X.env = (false, eval e X.env) :: starEach es X.env := by rfl) (h4 : (backTo pos (starEach es X.env)).any (·.1) = false := by rfl) :
    PE X (.Call (.Name x p) (e :: es) [] pos) (tCallX P w K mg base k i E t) := by
  subst e1 e2 e3 e4 e5
  refine ⟨fun pins s σ H Q I ⟨f, sp, ⟨⟨j, fd, ps, hj, F, kp, bd⟩⟩, at_, rest⟩ => ?_⟩
  refine wpAny_Call_Name_kw (thn ((pe_var (pos := p) hN hv h1 h2).run pins s σ H (fun w1 Hq => w1 = .ref f ∧ Hq = H) I ⟨.ref f, at_, rfl, rfl⟩) fun u s1 ⟨w1, Hq, I1, r1, ⟨e1, e2⟩⟩ => ?_)
  subst e1 e2
  cases r1
  exact PySem.W.callWith_K (h₀ := X.base) I.ok.mod.kin kp (thn (ha.run pos pins s1 σ _ _ I1 rest) fun us s2 ⟨vs, H2, I2, r, q⟩ => ⟨I2.kIn, run_fnS F (hr.mono hj) bd (hx σ) I2 r q⟩) h3 h4
end
end Ex2
/-! ## objects that are no integers; loops over written lists; one item of a list of anything -/
namespace Rd
open PySem PySem.Spec PyProof.Rows L2
def TS1 : List String := ["NoneType", "tuple", "list", "dict"]
/-- an address is marked as the source's -/
def IsSrc (_ : Addr) : Prop := True
def TS0 : List String := ["NoneType", "str", "tuple", "list", "dict"]
/-- none, a text, a tuple, a list of another length than two, a dict -/
inductive OddN (H : Hp) : V → Prop where
  | non : OddN H .non
  | str (x : Str) : OddN H (.str x)
  | tup {p : Addr} {xs : List V} (e : H p = some (.tup xs)) : OddN H (.ref p)
  | lst {p : Addr} {xs : List V} (e : H p = some (.lst xs)) (n : xs.length ≠ 2) : OddN H (.ref p)
  | dK {p : Addr} {kvs : List (Key × V)} (e : H p = some (.dK kvs)) : OddN H (.ref p)
theorem OddN.ty {K : PySem.W.Frag} {H : Hp} {v : V} : OddN H v → ∃ T, T ∈ TS0 ∧ TyX K H v (.type T)
  | .non => ⟨_, by decide, .base .non⟩
  | .str x => ⟨_, by decide, .base (.str x)⟩
  | .tup e => ⟨_, by decide, .base (.tup e)⟩
  | .lst e _ => ⟨_, by decide, .base (.lst e)⟩
  | .dK e => ⟨_, by decide, .base (.dK e)⟩
theorem OddN.same {H H' : Hp} {v : V} (S : Same H H') : OddN H v → OddN H' v
  | .non => .non
  | .str x => .str x
  | .tup e => .tup (S _ _ e)
  | .lst e n => .lst (S _ _ e) n
  | .dK e => .dK (S _ _ e)
theorem OddN.ty1 {K : PySem.W.Frag} {H : Hp} {v : V} : OddN H v → (∃ x, v = .str x) ∨ ∃ T, T ∈ TS1 ∧ TyX K H v (.type T)
  | .non => .inr ⟨_, by decide, .base .non⟩
  | .str x => .inl ⟨_, rfl⟩
  | .tup e => .inr ⟨_, by decide, .base (.tup e)⟩
  | .lst e _ => .inr ⟨_, by decide, .base (.lst e)⟩
  | .dK e => .inr ⟨_, by decide, .base (.dK e)⟩
theorem OddN.new {H : Hp} {v : V} {p : Addr} {o : HO} (n : H p = none) (h : OddN H v) : OddN (upd H p o) v := h.same fun b u e => by
  rw [upd_ne (ne_of_none e n)]; exact e
theorem OddN.two {H : Hp} {v : V} {a : Addr} {x y : V} {o : HO} (e : H a = some (.lst [x, y])) (h : OddN H v) : OddN (upd H a o) v := by
  cases h with
  | non => exact .non
  | str x => exact .str x
  | tup q => exact .tup (by rw [upd_ne (ne_of q e (by intro z; cases z))]; exact q)
  | lst q n => exact .lst (by rw [upd_ne (ne_of q e (by intro z; cases z; exact n rfl))]; exact q) n
  | dK q => exact .dK (by rw [upd_ne (ne_of q e (by intro z; cases z))]; exact q)
theorem tyof_same {K : PySem.W.Frag} {H H' : Hp} {y : V} {t : Value} (S : Same H H') (h : TyOf K H y t) : TyOf K H' y t := by
  cases h with
  | non => exact .non
  | bl x => exact .bl x
  | int x => exact .int x
  | str x => exact .str x
  | flt x => exact .flt x
  | lst e => exact .lst (S _ _ e)
  | frz e => exact .frz (S _ _ e)
  | tup e => exact .tup (S _ _ e)
  | dK e => exact .dK (S _ _ e)
  | dT e => exact .dT (S _ _ e)
  | ins e c a n k m => exact .ins (S _ _ e) c a n k m
theorem tyx_same {K : PySem.W.Frag} {H H' : Hp} {y : V} {t : Value} (S : Same H H') (h : TyX K H y t) : TyX K H' y t := by
  cases h with
  | base b => exact .base (tyof_same S b)
  | byt b => exact .byt b
  | set e => exact .set (S _ _ e)
  | kList e c => exact .kList e c
  | kTuple e c => exact .kTuple e c
  | kDict e c => exact .kDict e c
  | fTuple e => exact .fTuple (S _ _ e)
  | fDict e => exact .fDict (S _ _ e)
theorem kit_TS_int {K : PySem.W.Frag} : ∀ T ∈ TS0, PySem.W.kitOne K (.type T) (.type "int") = some false := by
  intro T h
  simp only [TS0, List.mem_cons, List.not_mem_nil, or_false] at h
  rcases h with rfl | rfl | rfl | rfl | rfl
  exact kit_none_int
  exact kit_str_int
  exact kit_tuple_int
  exact kit_list_int
  exact kit_dict_int
/-- .. or a truth -/
def OddV (H : Hp) (v : V) : Prop := OddN H v ∨ ∃ b, v = .bl b
theorem OddV.same {H H' : Hp} {v : V} (S : Same H H') (h : OddV H v) : OddV H' v := h.imp (·.same S) id
theorem dp_ss {K : PySem.W.Frag} {H : Hp} {p : Addr} {a b : Str} (h : SqL K H p [.str a, .str b]) : Dp K H (.ref p) (.list [.str a, .str b]) := .lst h (.cons (.str _) (.cons (.str _) .nil))
theorem shaped_ss {a b : Str} (ha : PyData.strOk a = true) (hb : PyData.strOk b = true) : SeqAt.shaped (.list [.str a, .str b]) = true := by
  simp only [PySem.SeqAt.shaped, PySem.PyData.canLay0, PySem.PyData.canLayAll0, PySem.PyData.depth, PySem.PyData.depthAll, ha, hb]; rfl
theorem OddV.sameR {H H' : Hp} {v : V} (h : OddV H v) (S : Same H H') : OddV H' v := h.same S
theorem eqv_ss (a b : Str) : PyData.eqv (.list [.str a, .str b]) (.list [.str a, .str b]) = true := by simp [PyData.eqv, PyData.eqvAll]
/-- of a list of anything one item: what all its items keep -/
theorem pickV (P : Hp → V → Prop) {K : PySem.W.Frag} {H : Hp} {a : Addr} {xs : List V} {d : Int} {Q : VK} (e : SqL K H a xs) (hm : ∀ v ∈ xs, P H v) (h0 : 0 ≤ d) (h1 : d < (xs.length : Int))
    (k : ∀ v, v ∈ xs → P H v → Q v H) : rIxL K (.ref a) (.int d) H Q := by
  obtain ⟨j, rfl⟩ : ∃ j : Nat, d = (j : Int) := ⟨d.toNat, by omega⟩
  have hj : j < xs.length := by omega
  exact ixL e (atI_nat (List.getElem?_eq_getElem hj)) (k _ (List.getElem_mem hj) (hm _ (List.getElem_mem hj)))
theorem catL {H : Hp} {l b : Addr} {xs zs : List V} {Q : VK} (h1 : H l = some (.lst xs)) (h2 : H b = some (.lst zs)) (n : xs.length + zs.length ≤ 1000) (k : ∀ p, H p = none → Q (.ref p) (upd H p (.lst (xs ++ zs)))) : rCat (.ref l) (.ref b) H Q :=
  ⟨l, b, xs, zs, rfl, rfl, h1, h2, Nat.le_of_lt (small1000 n), k⟩
/-- a loop over a list that is known whole, turn by turn -/
def unr (K : PySem.W.Frag) (a : Addr) (all : List V) (g : TG) (tb : TS) (D : Ends) : List V → L2.St → Hp → Prop
  | [], σ, H => D.nx σ H
  | x :: xs, σ, H => g x σ H fun σ2 H2 => tb { D with nx := fun σ' H' => SqL K H' a all ∧ unr K a all g tb D xs σ' H', ct := fun σ' H' => SqL K H' a all ∧ unr K a all g tb D xs σ' H', bk := D.nx } σ2 H2
theorem unroll {K : PySem.W.Frag} {a : Addr} {all : List V} {g : TG} {tb : TS} {D : Ends} {σ : L2.St} {H : Hp} (h0 : SqL K H a all) (h : unr K a all g tb D all σ H) :
    ∃ W : Nat → Nat → L2.St → Hp → Prop, (∃ m, W 0 m σ H) ∧ ∀ i m σ H, W i m σ H →
      ((Itl K a).stop i H ∧ D.nx σ H) ∨ ((Itl K a).go i H ∧ ∃ N : L2.St → Hp → Prop, (∀ σ' H', N σ' H' → ∃ m', m' < m ∧ W (i + 1) m' σ' H') ∧ ∀ x H', (Itl K a).yld i H x H' → g x σ H' fun σ2 H2 => tb { D with nx := N, ct := N, bk := D.nx } σ2 H2) := by
  refine for_list (xs := all) (fun i σ H => SqL K H a all ∧ unr K a all g tb D (all.drop i) σ H) ⟨h0, h⟩ (fun i σ H _ p => p.1) (fun i x σ H hx p => ?_) (fun σ H p => ?_)
  · have hi : i < all.length := (List.getElem?_eq_some_iff.mp hx).1
    have e : all.drop i = x :: all.drop (i + 1) := by rw [List.drop_eq_getElem_cons hi]; congr 1; exact (List.getElem?_eq_some_iff.mp hx).2
    have q := p.2
    rw [e] at q
    exact q
  · have q := p.2
    rw [List.drop_length] at q
    exact q
theorem unroll2 {K : PySem.W.Frag} {a : Addr} {all : List V} {g : TG} {tb : TS} {D : Ends} {σ : L2.St} {H : Hp} (h0 : SqL K H a all) (h : unr K a all g tb D all σ H) :
    (∃ xs, SqL K H a xs) ∧ ∃ W : Nat → Nat → L2.St → Hp → Prop, (∃ m, W 0 m σ H) ∧ ∀ i m σ H, W i m σ H →
      ((Itl K a).stop i H ∧ D.nx σ H) ∨ ((Itl K a).go i H ∧ ∃ N : L2.St → Hp → Prop, (∀ σ' H', N σ' H' → ∃ m', m' < m ∧ W (i + 1) m' σ' H') ∧ ∀ x H', (Itl K a).yld i H x H' → g x σ H' fun σ2 H2 => tb { D with nx := N, ct := N, bk := D.nx } σ2 H2) := ⟨⟨_, h0⟩, unroll h0 h⟩
theorem unrCons {K : PySem.W.Frag} {a : Addr} {all : List V} {g : TG} {tb : TS} {D : Ends} {x : V} {xs : List V} {σ : L2.St} {H : Hp}
    (h : g x σ H fun σ2 H2 => tb { D with nx := fun σ' H' => SqL K H' a all ∧ unr K a all g tb D xs σ' H', ct := fun σ' H' => SqL K H' a all ∧ unr K a all g tb D xs σ' H', bk := D.nx } σ2 H2) : unr K a all g tb D (x :: xs) σ H := h
theorem unrNil {K : PySem.W.Frag} {a : Addr} {all : List V} {g : TG} {tb : TS} {D : Ends} {σ : L2.St} {H : Hp} (h : D.nx σ H) : unr K a all g tb D [] σ H := h
/-- {k: v} of written values -/
theorem disp1 {σ : L2.St} {H : Hp} {Q : VK} {i : Int} {x : V} (h : ∀ p, H p = none → Q (.ref p) (upd H p (.dK [(.inl i, x)]))) : tDisp [(tC (.int i), tC x)] σ H Q :=
  fun p np => ⟨upd_same, [(.inl i, x)], rfl, Nat.le_of_ble_eq_true rfl, by rw [upd_upd]; exact h p np⟩
theorem newK {σ : L2.St} {H : Hp} {Q : VK} (h : ∀ p, H p = none → Q (.ref p) (upd H p (.dK []))) : tDNewK σ H Q := h
theorem ty_str {b : Str} : ∀ u, RelV (.str b) u → typeOf u = pure (.type "str") := by
  intro u r
  obtain ⟨t, q⟩ := (show ∃ t, u = Value.str b t from r)
  cases q
  rfl
theorem ty_bl {b : Bool} : ∀ u, RelV (.bl b) u → typeOf u = pure (.type "bool") := by
  intro u r
  cases (show u = Value.bool b from r)
  rfl
end Rd
/-! ## static methods, called by their class; a def's promise that is its own body; small helpers -/
namespace Sta
open PySem PySem.Spec PyProof.Rows L2
structure SMet (K : PySem.W.Frag) (C : Addr) (m : Str) (f : Addr) : Prop where
  rd : PySem.W.readsIn K C (.type "type") = true
  ga : PySem.W.specialIn K (.ref C) "__getattribute__" = some (some (.builtin "type.__getattribute__"))
  at_ : ∃ p rest, PySem.W.findCls K (.ref C) (.type "type") m = some (.get (.builtin "staticmethod.__get__") (.ref p) .none (.ref C)) ∧ PySem.W.recIn K p "staticmethod" = some (.ref f :: rest)
  kp : PySem.W.keepIn K (.ref f) = true
def tSMeth (C : Addr) (sp : Sp) (dvs : List V) (E : XK) (ta : TE) (t : TA) : TE := fun σ H Q => ta σ H fun x H1 => x = .ref C ∧ t σ H1 fun vs H2 => sp (vs ++ dvs) H2 Q E
section
variable {X : Cx} {CX : CXT} {k : Nat} {C f : Addr} {fd : FuncData} {ps : List Str} {ds : List Value} {dvs : List V} {sp : Sp} {E : XK} {o e : Expr} {es : List Expr} {m : Str} {pos apos : Pos} {ta : TE} {t : TA} {pl : Sem Bool}
theorem getmeth_sm {pins : List (Addr × Obj)} {σ : L2.St} {H : Hp} {s : Shared} {A : Around} {E' : Value → Shared → Prop} {Q : Value × List Value → Shared → Prop} (I : Inv X pins σ H s) (c : SMet X.K C m f)
    (h : ∀ s', Inv X pins σ H s' → Q (.ref f, []) s') : wpAny (model X.prog X.w) A (getMethod (.ref C) m pl) Q E' s := by
  obtain ⟨p, rest, a1, a2⟩ := c.at_
  exact PySem.W.method_cls I.kIn c.ga (PySem.W.cls_bind I.kIn c.rd a1 (wpAny_call (PySem.W.sm_get (s := { s with toks := s.toks + 1 }) I.kIn a2 (PySem.W.handed_on rfl (h _ (I.tok _))))))
theorem pe_smeth (he : PE X o ta) (c : SMet X.K C m f) (F : FnOk X.prog X.w X.K X.mg X.base CX k f fd ps sp) (hr : Room k X.A) (hb : Binds X.K fd ps ds) (hd : Vals dvs ds) (hx : Passes CX X E) (ha : PA X (e :: es) t)
    (hst : starEach (e :: es) X.env = (false, eval e X.env) :: starEach es X.env := by rfl) (hpl : (backTo pos (starEach es X.env)).any (·.1) = false := by rfl)
    (ht : eval (.Call (.Attribute o m apos) (e :: es) [] pos) X.env = (do
      let ov ← eval o X.env
      standAt apos.atName
      let (f, first) ← holding [ov] (getMethod ov m pl)
      callWith pos f first (backTo pos (starEach (e :: es) X.env)) (backToKw pos (keywordEach [] X.env))) := by rfl) :
    PE X (.Call (.Attribute o m apos) (e :: es) [] pos) (tSMeth C sp dvs E ta t) := by
  refine ⟨fun pins s σ H Q I h => ?_⟩
  refine PySem.W.methodCall_KW (pl := pl) (thn (he.run pins s σ H _ I h) fun u s1 ⟨x, H1, I1, rx, ex, q⟩ => ?_) ht
  subst ex
  obtain rfl : u = Value.ref C := rx
  refine getmeth_sm I1 c fun s2 I2 => ?_
  refine PySem.W.callWith_K (first := []) (h₀ := X.base) I2.ok.mod.kin c.kp (thn (ha.run pos pins s2 σ H1 _ I2 q) fun us s3 ⟨vs, H2, I3, r, q2⟩ => ⟨I3.kIn, ?_⟩) hst hpl
  exact run_fn (us := us) (vs := vs) F hr hb hd hx I3 r q2
theorem pe_smeth0 (he : PE X o ta) (c : SMet X.K C m f) (F : FnOk X.prog X.w X.K X.mg X.base CX k f fd ps sp) (hr : Room k X.A) (hb : Binds X.K fd ps ds) (hd : Vals dvs ds) (hx : Passes CX X E)
    (ht : eval (.Call (.Attribute o m apos) [] [] pos) X.env = (do
      let ov ← eval o X.env
      standAt apos.atName
      let (f, first) ← holding [ov] (getMethod ov m pl)
      callWith pos f first (backTo pos (starEach [] X.env)) (backToKw pos (keywordEach [] X.env))) := by rfl) :
    PE X (.Call (.Attribute o m apos) [] [] pos) (tSMeth C sp dvs E ta tNil) := by
  refine ⟨fun pins s σ H Q I h => ?_⟩
  refine PySem.W.methodCall_KW (pl := pl) (thn (he.run pins s σ H _ I h) fun u s1 ⟨x, H1, I1, rx, ex, q⟩ => ?_) ht
  subst ex
  obtain rfl : u = Value.ref C := rx
  refine getmeth_sm I1 c fun s2 I2 => ?_
  exact PySem.W.callWith_K0 (first := []) I2.kIn c.kp (run_fn (us := []) (vs := []) F hr hb hd hx I2 .nil q)
/-- a def that may raise, called where nothing may leave -/
theorem passF {X : Cx} : Passes (L2.CX X.prog X.w) X E0 := fun _ _ _ _ _ _ _ ⟨_, _, _, _, _, _, _, _, _, _, _, _, z⟩ => z.elim
end
end Sta
namespace Rd
open PySem PySem.Spec PyProof.Rows L2
section
variable {σ : L2.St} {H : Hp} {Q : VK} {D : Ends} {K : PySem.W.Frag}
theorem smeth {C : Addr} {sp : Sp} {dvs : List V} {E : XK} {ta : TE} {t : TA} (h : ta σ H fun x H1 => x = .ref C ∧ t σ H1 fun vs H2 => sp (vs ++ dvs) H2 Q E) : Sta.tSMeth C sp dvs E ta t σ H Q := h
theorem m0 {r : V → List V → Hp → VK → Prop} {to : TE} (h : to σ H fun x H1 => (∃ a, x = .str a) ∧ r x [] H1 Q) : tM0 r to σ H Q := h
theorem m1 {r : V → List V → Hp → VK → Prop} {to te : TE} (h : to σ H fun x H1 => (∃ a, x = .str a) ∧ te σ H1 fun y H2 => r x [y] H2 Q) : tM1 r to te σ H Q := h
theorem fmt {te : TE} (h : te σ H fun x H1 => (∃ y : Str, x = .str y ∧ y.length ≤ sizeLine ∧ Q (.str y) H1) ∨ ∃ i : Int, x = .int i ∧ i.natAbs.log2 < 1920 ∧ Q (.str (toString i)) H1) : tFmt te σ H Q := h
theorem chainP {r' : R2} {tc : TE} {y : V} {c d : Bool} (h1 : ∀ Q' : VK, Q' (.bl d) H → tc σ H fun w' H4 => r' y w' H4 Q') (h : Q (.bl (c && d)) H) : if c = true then tc σ H (fun w' H4 => r' y w' H4 Q) else Q (.bl false) H := by
  cases c with
  | true => exact h1 Q h
  | false => exact h
theorem via {sp : Sp} {vs : List V} {E : XK} (Post : V → Hp → Prop) (h1 : ∀ Q' : VK, (∀ v H', Post v H' → Q' v H') → sp vs H Q' E) (h2 : ∀ v H', Post v H' → Q v H') : sp vs H Q E := h1 Q h2
end
end Rd
/-! ## texts: numbers written, and the methods by lists of signs -/
namespace Tx
open PySem L2 PyProof PyProof.Rows TL
theorem pre_iff {S l : List Nat} : pre S l = true ↔ ∃ r, l = S ++ r := by
  unfold pre
  rw [beq_iff_eq]
  constructor
  · intro h
    exact ⟨l.drop S.length, by rw [← h]; simp only [List.length_take]; conv => lhs; rw [← List.take_append_drop S.length l]
                               congr 1
                               rw [← h] at *
                               simp⟩
  · rintro ⟨r, rfl⟩
    simp
theorem subAt_tl (x y : Str) (i : Nat) : Builtin.Str.subAt x y i = (((tl x).drop i).take (tl y).length == tl y) := by
  rw [StrLaws.subAt_eq, len_tl]
theorem sw_tl (x y : Str) : Txt.startswith x y = pre (tl y) (tl x) := by
  unfold Txt.startswith pre
  rw [subAt_tl, len_tl, len_tl, List.drop_zero]
  by_cases h : (tl y).length ≤ (tl x).length
  · simp only [Nat.zero_add, h, decide_true, Bool.true_and]
  · simp only [Nat.zero_add, h, decide_false, Bool.false_and]
    symm
    rw [beq_eq_false_iff_ne]
    intro e
    exact h (by rw [← e]; simp [List.length_take]; omega)
/-- the last signs -/
def suf (S l : List Nat) : Bool := decide (S.length ≤ l.length) && (l.drop (l.length - S.length) == S)
theorem ew_tl (x y : Str) : Txt.endswith x y = suf (tl y) (tl x) := by
  unfold Txt.endswith suf
  rw [subAt_tl, len_tl, len_tl, Nat.zero_add]
  by_cases h : (tl y).length ≤ (tl x).length
  · simp only [h, decide_true, Bool.true_and]
    rw [List.take_of_length_le (by rw [List.length_drop]; omega)]
  · simp only [h, decide_false, Bool.false_and]
theorem suf_app (a S : List Nat) : suf S (a ++ S) = true := by
  unfold suf
  simp
theorem suf_one {c : Nat} {l : List Nat} : suf [c] l = decide (l.getLast? = some c) := by
  unfold suf
  rcases List.eq_nil_or_concat l with rfl | ⟨l', d, rfl⟩
  · rfl
  · simp [beq_iff_eq]
    by_cases q : d = c <;> simp [q]
/-- without the first signs, where they stand -/
theorem rp_app {x y : Str} {r : List Nat} (h : tl x = tl y ++ r) : tl (Txt.removeprefix x y) = r := by
  have e : Builtin.Str.subAt x y 0 = true := by rw [subAt_tl, h]; simp
  unfold Txt.removeprefix Txt.affix
  rw [if_pos e]
  dsimp only
  have hl : x.length = (tl y).length + r.length := by rw [len_tl, h, List.length_append]
  by_cases q : (x.length - y.length == x.length) = true
  · rw [if_pos q, h]
    rw [beq_iff_eq, len_tl y] at q
    have : (tl y).length = 0 := by omega
    rw [List.length_eq_zero_iff.mp this, List.nil_append]
  · rw [if_neg q, tl_strSub, h, len_tl y, hl]
    simp
theorem rp_none {x y : Str} (h : pre (tl y) (tl x) = false) : Txt.removeprefix x y = x := by
  have e : Builtin.Str.subAt x y 0 = false := by
    rw [subAt_tl, List.drop_zero]
    unfold pre at h
    rw [← h]
  unfold Txt.removeprefix Txt.affix
  rw [e]
  rfl
theorem rs_app {x y : Str} {r : List Nat} (h : tl x = r ++ tl y) : tl (Txt.removesuffix x y) = r := by
  have hl : x.length = r.length + (tl y).length := by rw [len_tl, h, List.length_append]
  have e : (decide (y.length ≤ x.length) && Builtin.Str.subAt x y (x.length - y.length)) = true := by
    rw [subAt_tl, h, hl, len_tl y]
    simp only [Nat.add_sub_cancel, List.drop_left', List.take_length, beq_self_eq_true, Bool.and_true, decide_eq_true_eq]
    omega
  unfold Txt.removesuffix Txt.affix
  rw [if_pos e]
  dsimp only
  by_cases q : (x.length - y.length - 0 == x.length) = true
  · rw [if_pos q, h]
    rw [beq_iff_eq, len_tl y] at q
    have : (tl y).length = 0 := by omega
    rw [List.length_eq_zero_iff.mp this, List.append_nil]
  · rw [if_neg q, tl_strSub, h, len_tl y, hl]
    simp
/-- a whole number's text -/
abbrev nS (i : Int) : Str := Str.ofString (toString i)
theorem nS_nat (n : Nat) : tl (nS (n : Int)) = numL n := tl_num n
theorem nS_pos {i : Int} (h : 0 ≤ i) : tl (nS i) = numL i.natAbs := by
  obtain ⟨n, rfl⟩ := Int.eq_ofNat_of_zero_le h
  exact tl_num n
theorem nS_neg {i : Int} (h : i < 0) : tl (nS i) = 45 :: numL i.natAbs := by
  obtain ⟨n, rfl⟩ : ∃ n : Nat, i = Int.negSucc n := ⟨(-i).toNat - 1, by omega⟩
  have e : toString (Int.negSucc n) = "-" ++ toString (n + 1) := rfl
  show tl (Str.ofString (toString (Int.negSucc n))) = _
  rw [e, tl_ofString, String.toList_append, List.map_append]
  have e2 : (toString (n + 1)).toList.map Char.toNat = numL (n + 1) := by
    rw [← tl_num (n + 1), tl_ofString]
    rfl
  rw [e2]
  rfl
theorem log2_lt {n k : Nat} (h : n < 2 ^ k) (hk : 0 < k) : n.log2 < k := by
  by_cases h0 : n = 0
  · subst h0; simpa using hk
  · exact (Nat.log2_lt h0).mpr h
theorem int_nS {i : Int} (h0 : 0 ≤ i) (h : i < 10 ^ 60) : intText? (nS i) = some i := by
  obtain ⟨n, rfl⟩ := Int.eq_ofNat_of_zero_le h0
  have := numL_len (n := n) (k := 60) (by decide) (by omega)
  exact int_num (by omega)
theorem nS_len {i : Int} {k : Nat} (h0 : 0 ≤ i) (hk : 0 < k) (h : i < 10 ^ k) : (nS i).length ≤ k := by
  obtain ⟨n, rfl⟩ := Int.eq_ofNat_of_zero_le h0
  rw [len_tl, nS_nat]
  exact numL_len hk (by exact_mod_cast h)
theorem nS_digit {i : Int} (h0 : 0 ≤ i) : Txt.isdigit (nS i) = true := by
  obtain ⟨n, rfl⟩ := Int.eq_ofNat_of_zero_le h0
  have a := numL_digits n
  have b := numL_ne n
  unfold Txt.isdigit
  rw [Bool.and_eq_true]
  constructor
  · rw [len_tl, nS_nat, decide_eq_true_eq]
    exact List.length_pos_iff.mpr b
  · rw [← Array.all_toList, List.all_eq_true]
    intro c hc
    have hc : c ∈ numL n := by rw [← nS_nat]; exact hc
    obtain ⟨h1, h2⟩ := a c hc
    have : ∀ d : Nat, d < 58 → 48 ≤ d → PySem.Unicode.isDigit d = true := by decide +kernel
    exact this c (by omega) h1
theorem nS_ascii (i : Int) (h0 : 0 ≤ i) : Txt.isascii (nS i) = true := by
  obtain ⟨n, rfl⟩ := Int.eq_ofNat_of_zero_le h0
  unfold Txt.isascii
  rw [← Array.all_toList, List.all_eq_true]
  intro c hc
  have hc : c ∈ numL n := by rw [← nS_nat]; exact hc
  obtain ⟨h1, h2⟩ := numL_digits n c hc
  exact decide_eq_true (by omega)
theorem numL_head0 : ∀ n : Nat, (numL n).head? = some 48 → n = 0 := by
  intro n
  induction n using Nat.strongRecOn with
  | ind n ih =>
    intro h
    by_cases hn : n < 10
    · rw [numL_lt hn] at h
      simp at h
      omega
    · rw [numL_step (by omega)] at h
      have hne := numL_ne (n / 10)
      have h' : (numL (n / 10)).head? = some 48 := by
        cases e : numL (n / 10) with
        | nil => exact absurd e hne
        | cons c cs => rw [e] at h; simpa using h
      have := ih (n / 10) (by omega) h'
      omega
end Tx
/-! ## the texts of forms -/
namespace Tf
open PySem L2 PyProof PyProof.Rows TL Tx
def shS (s : Int) : Str := if s = 1 then "N" else if s = -1 then "-N" else Str.empty ++ nS s ++ "*N"
def shF (s b : Int) : Str := if s = 0 then nS b else if 0 < b then Str.empty ++ shS s ++ " + " ++ nS b else if b < 0 then Str.empty ++ shS s ++ " - " ++ nS (-b) else shS s
def wF (s b : Int) : List Str := if s = 0 then [nS b] else if 0 < b then [shS s, "+", nS b] else if b < 0 then [shS s, "-", nS (-b)] else [shS s]
theorem shS_o {s : Int} (h1 : s ≠ 1) (h2 : s ≠ -1) : shS s = Str.empty ++ nS s ++ "*N" := by unfold shS; rw [if_neg h1, if_neg h2]
theorem shF_0 (b : Int) : shF 0 b = nS b := by unfold shF; rw [if_pos rfl]
theorem shF_p {s b : Int} (h : s ≠ 0) (hb : 0 < b) : shF s b = Str.empty ++ shS s ++ " + " ++ nS b := by unfold shF; rw [if_neg h, if_pos hb]
theorem shF_n {s b : Int} (h : s ≠ 0) (hb : b < 0) : shF s b = Str.empty ++ shS s ++ " - " ++ nS (-b) := by unfold shF; rw [if_neg h, if_neg (by omega), if_pos hb]
theorem shF_z {s : Int} (h : s ≠ 0) : shF s 0 = shS s := by unfold shF; rw [if_neg h, if_neg (by omega), if_neg (by omega)]
theorem wF_0 (b : Int) : wF 0 b = [nS b] := by unfold wF; rw [if_pos rfl]
theorem wF_p {s b : Int} (h : s ≠ 0) (hb : 0 < b) : wF s b = [shS s, "+", nS b] := by unfold wF; rw [if_neg h, if_pos hb]
theorem wF_n {s b : Int} (h : s ≠ 0) (hb : b < 0) : wF s b = [shS s, "-", nS (-b)] := by unfold wF; rw [if_neg h, if_neg (by omega), if_pos hb]
theorem wF_z {s : Int} (h : s ≠ 0) : wF s 0 = [shS s] := by unfold wF; rw [if_neg h, if_neg (by omega), if_neg (by omega)]
theorem tl_e : tl Str.empty = [] := rfl
theorem tl_N : tl ("N" : Str) = [78] := by decide +kernel
theorem tl_mN : tl ("-N" : Str) = [45, 78] := by decide +kernel
theorem tl_sN : tl ("*N" : Str) = [42, 78] := by decide +kernel
theorem tl_sp : tl (" " : Str) = [32] := by decide +kernel
theorem tl_pl : tl ("+" : Str) = [43] := by decide +kernel
theorem tl_mi : tl ("-" : Str) = [45] := by decide +kernel
theorem tl_z : tl ("0" : Str) = [48] := by decide +kernel
theorem tl_pls : tl (" + " : Str) = [32, 43, 32] := by decide +kernel
theorem tl_mis : tl (" - " : Str) = [32, 45, 32] := by decide +kernel
theorem nS_free {c : Nat} (h : c < 48 ∨ 57 < c) (h2 : c ≠ 45) (i : Int) : c ∉ tl (nS i) := by
  by_cases q : 0 ≤ i
  · rw [nS_pos q]; exact numL_free h
  · rw [nS_neg (by omega)]
    intro hm
    rcases List.mem_cons.mp hm with e | e
    · exact h2 e
    · exact numL_free h e
theorem shS_free (s : Int) : 32 ∉ tl (shS s) := by
  unfold shS
  split
  · rw [tl_N]; decide
  · split
    · rw [tl_mN]; decide
    · rw [tl_append, tl_append, tl_e, tl_sN, List.nil_append]
      intro hm
      rcases List.mem_append.mp hm with e | e
      · exact nS_free (by decide) (by decide) s e
      · revert e; decide
theorem join_wF (s b : Int) : shF s b = Txt.join " " (wF s b) := by
  rw [join_eq]
  apply ext_tl
  rw [tl_join, tl_sp]
  unfold shF wF
  split
  · rfl
  · split
    · simp only [tl_append, tl_e, tl_pls, List.map_cons, List.map_nil, joinL, tl_pl, List.nil_append, List.append_assoc, List.cons_append]
    · split
      · simp only [tl_append, tl_e, tl_mis, List.map_cons, List.map_nil, joinL, tl_mi, List.nil_append, List.append_assoc, List.cons_append]
      · rfl
theorem wF_free (s b : Int) : ∀ p ∈ wF s b, 32 ∉ tl p := by
  unfold wF
  intro p hp
  split at hp
  · rw [List.mem_singleton.mp hp]; exact nS_free (by decide) (by decide) b
  · split at hp
    · simp only [List.mem_cons, List.not_mem_nil, or_false] at hp
      rcases hp with rfl | rfl | rfl
      · exact shS_free s
      · rw [tl_pl]; decide
      · exact nS_free (by decide) (by decide) b
    · split at hp
      · simp only [List.mem_cons, List.not_mem_nil, or_false] at hp
        rcases hp with rfl | rfl | rfl
        · exact shS_free s
        · rw [tl_mi]; decide
        · exact nS_free (by decide) (by decide) _
      · rw [List.mem_singleton.mp hp]; exact shS_free s
theorem wF_ne (s b : Int) : wF s b ≠ [] := by
  unfold wF
  split
  · simp
  · split
    · simp
    · split <;> simp
theorem split_shF (s b : Int) : Txt.split (shF s b) " " = wF s b := by
  rw [join_wF]
  exact split_join tl_sp (by decide +kernel) (wF_ne s b) (wF_free s b)
theorem nS_ne (i : Int) : tl (nS i) ≠ [] := by
  by_cases q : 0 ≤ i
  · rw [nS_pos q]; exact numL_ne _
  · rw [nS_neg (by omega)]; simp
theorem nS_endN (i : Int) : Txt.endswith (nS i) "N" = false := by
  rw [ew_tl, tl_N, suf_one, decide_eq_false_iff_not]
  intro h
  exact nS_free (c := 78) (by decide) (by decide) i (List.mem_of_getLast? h)
theorem shS_endN (s : Int) : Txt.endswith (shS s) "N" = true := by
  rw [ew_tl, tl_N]
  unfold shS
  split
  · rw [tl_N]; rfl
  · split
    · rw [tl_mN]; rfl
    · rw [tl_append, tl_sN]
      exact (show suf [78] ((tl (Str.empty ++ nS s) ++ [42]) ++ [78]) = true from suf_app _ _) ▸ (by rw [List.append_assoc]; rfl)
theorem nS_0 : nS 0 = "0" := by decide +kernel
theorem nS_sw0 {i : Int} (h : 0 < i) : Txt.startswith (nS i) "0" = false := by
  rw [sw_tl, tl_z, Bool.eq_false_iff]
  intro e
  obtain ⟨r, hr⟩ := pre_iff.mp e
  rw [nS_pos (by omega)] at hr
  have := numL_head0 i.natAbs (by rw [hr]; rfl)
  omega
theorem nS_swm {i : Int} (h : 0 ≤ i) : Txt.startswith (nS i) "-" = false := by
  rw [sw_tl, tl_mi, Bool.eq_false_iff]
  intro e
  obtain ⟨r, hr⟩ := pre_iff.mp e
  rw [nS_pos h] at hr
  exact numL_free (n := i.natAbs) (s := 45) (by decide) (by rw [hr]; exact List.mem_cons_self ..)
theorem nS_swn {i : Int} (h : i < 0) : Txt.startswith (nS i) "-" = true := by
  rw [sw_tl, tl_mi, nS_neg h]
  exact pre_iff.mpr ⟨_, rfl⟩
theorem nS_rpm {i : Int} (h : i < 0) : Txt.removeprefix (nS i) "-" = nS (-i) := by
  apply ext_tl
  rw [rp_app (r := numL i.natAbs) (by rw [nS_neg h, tl_mi]; rfl), nS_pos (by omega)]
  congr 1
  omega
theorem pl_rp (b : Int) : Txt.removeprefix (("+" : Str) ++ nS b) "+" = nS b := by
  apply ext_tl
  rw [rp_app (r := tl (nS b)) (by rw [tl_append])]
theorem mi_app {b : Int} (h : b < 0) : ("-" : Str) ++ nS (-b) = nS b := by
  apply ext_tl
  rw [tl_append, tl_mi, nS_pos (by omega), nS_neg h]
  show 45 :: numL _ = 45 :: numL _
  congr 2
  omega
theorem nS_rpp (i : Int) : Txt.removeprefix (nS i) "+" = nS i := by
  refine rp_none ?_
  rw [tl_pl, Bool.eq_false_iff]
  intro e
  obtain ⟨r, hr⟩ := pre_iff.mp e
  exact nS_free (c := 43) (by decide) (by decide) i (by rw [hr]; exact List.mem_cons_self ..)
theorem shS_rs {s : Int} (h1 : s ≠ 1) (h2 : s ≠ -1) : Txt.removesuffix (shS s) "*N" = nS s := by
  apply ext_tl
  rw [rs_app (r := tl (nS s)) (by rw [shS_o h1 h2, tl_append, tl_append, tl_e, List.nil_append])]
theorem shS_star {s : Int} (h1 : s ≠ 1) (h2 : s ≠ -1) : 42 ∈ tl (shS s) := by
  rw [shS_o h1 h2, tl_append, tl_sN]
  exact List.mem_append_right _ (List.mem_cons_self ..)
theorem shS_nN {s : Int} (h1 : s ≠ 1) (h2 : s ≠ -1) : shS s ≠ "N" := fun e => by
  have := shS_star h1 h2
  rw [e, tl_N] at this
  revert this; decide
theorem shS_nmN {s : Int} (h1 : s ≠ 1) (h2 : s ≠ -1) : shS s ≠ "-N" := fun e => by
  have := shS_star h1 h2
  rw [e, tl_mN] at this
  revert this; decide
theorem len_app (x y : Str) : (x ++ y).length = x.length + y.length := by rw [len_tl, tl_append, List.length_append, ← len_tl, ← len_tl]
theorem nS_lenB {i : Int} (h : i.natAbs < 2 ^ 200) : (nS i).length ≤ 70 := by
  by_cases q : 0 ≤ i
  · rw [len_tl, nS_pos q]
    have := numL_len (n := i.natAbs) (k := 61) (by decide) (by omega)
    omega
  · rw [len_tl, nS_neg (by omega), List.length_cons]
    have := numL_len (n := i.natAbs) (k := 61) (by decide) (by omega)
    omega
theorem shS_lenB {i : Int} (h : i.natAbs < 2 ^ 200) : (shS i).length ≤ 80 := by
  unfold shS
  split
  · decide +kernel
  · split
    · decide +kernel
    · have := nS_lenB h
      rw [len_app, len_app]
      have e1 : (Str.empty).length = 0 := rfl
      have e2 : ("*N" : Str).length = 2 := by decide +kernel
      omega
theorem lit_lens : (Str.empty).length = 0 ∧ ("*N" : Str).length = 2 ∧ (" + " : Str).length = 3 ∧ (" - " : Str).length = 3 ∧ ("+" : Str).length = 1 ∧ ("-" : Str).length = 1 := ⟨rfl, by decide +kernel, by decide +kernel, by decide +kernel, by decide +kernel, by decide +kernel⟩
theorem shF_lenB {s b : Int} (h : s.natAbs < 2 ^ 200) (g : b.natAbs < 2 ^ 200) : (shF s b).length ≤ 200 := by
  have a1 := nS_lenB g
  have a2 := shS_lenB h
  have a3 : (nS (-b)).length ≤ 70 := nS_lenB (by omega)
  obtain ⟨l1, l2, l3, l4, l5, l6⟩ := lit_lens
  unfold shF
  split
  · omega
  · split
    · simp only [len_app]; omega
    · split
      · simp only [len_app]; omega
      · omega
theorem lg {i : Int} (h : i.natAbs < 2 ^ 200) : i.natAbs.log2 < 1920 := Nat.lt_trans (log2_lt h (by decide)) (by decide)
end Tf
/-! ## counting truths in a list -/
namespace Cnt
open PySem PySem.Spec PyProof.Rows L2
theorem bools_of : ∀ {bs : List Bool} {us : List Value}, Vals (bs.map V.bl) us → us = bs.map Value.bool
  | [], _, .nil => rfl
  | b :: bs, _, .cons r rs => by
    have e1 := bools_of rs
    have e2 : _ = Value.bool b := r
    rw [e2, e1]
    rfl
def isB (k : Bool) : Value → Bool
  | .bool b => b == k
  | _ => false
theorem count_isB (k : Bool) : ∀ bs : List Bool, (bs.map Value.bool).countP (isB k) = bs.count k
  | [] => rfl
  | b :: bs => by
    rw [List.map_cons, List.countP_cons, count_isB k bs, List.count_cons]
    rfl
section
variable {X : Cx}
def rCntB (K : PySem.W.Frag) : V → List V → Hp → VK → Prop := fun x xs H Q => ∃ (p : Addr) (bs : List Bool) (k : Bool), x = .ref p ∧ xs = [.bl k] ∧ SqL K H p (bs.map V.bl) ∧ Q (.int (bs.count k : Nat)) H
theorem mt_countB : MtR X "list.count" (rCntB X.K) := by
  intro pins s σ H x xs vv us Q Inv0 rx rxs told
  obtain ⟨p, bs, k, rfl, rfl, sq, goal⟩ := told
  cases rx
  obtain ⟨u, rfl, ru⟩ := rxs.one
  have eu : u = Value.bool k := ru
  subst eu
  obtain ⟨its, rv, ⟨⟨c0, d0, dat0, sl0⟩, n, at0, ec, ed, edat⟩, len0⟩ := Inv0.list sq
  simp only at ec edat
  subst ec edat
  have es := bools_of rv
  refine call_meets PySem.F.slot_list_count ⟨_, at0, rfl⟩ PySem.F.entry_list_count (PySem.F.args_list_count_2 _ _)
    (SeqAt.list_countAt p its.toArray n d0 sl0 (.bool k) (isB k)) ⟨at0, fun y hy => ?_, ?_⟩
  · have hm : y ∈ bs.map Value.bool := by rw [← es]; simpa using hy
    obtain ⟨b, _, rfl⟩ := List.mem_map.mp hm
    exact SeqAt.EqAt.bool_bool b k
  · have en : its.toArray.toList.countP (isB k) = bs.count k := by
      show its.countP (isB k) = _
      rw [es]
      exact count_isB k bs
    refine ⟨.int (bs.count k : Nat), H, Inv0.tok _, ⟨s.toks, ?_⟩, goal⟩
    show Value.int ((its.toArray.toList.countP (isB k) : Nat) : Int) s.toks = _
    rw [en]
end
end Cnt
/-! ## comprehensions over written sources, item by item; ways joined behind an if -/
namespace Rd
open PySem PySem.Spec PyProof.Rows L2
/-- what is left of a comprehension, item by item; st says that the source stands -/
def Rem (D : Addr) (g : TG) (tt : TT) (te : TE) (vs : List Nat) (σ : L2.St) (st Q : Hp → Prop) : List V → Hp → Prop
  | [], H => st H ∧ Q H
  | x :: r, H => st H ∧ g x (wipe σ vs) H fun σ2 H2 => wipe σ2 vs = wipe σ vs ∧ tt σ2 H2 fun b H3 => if b = true then te σ2 H3 fun y H4 => ∃ acc, H4 D = some (.lst acc) ∧ acc.length < sizeLine ∧ Rem D g tt te vs σ st Q r (upd H4 D (.lst (acc ++ [y]))) else Rem D g tt te vs σ st Q r H3
section
variable {σ : L2.St} {H : Hp} {Q : VK} {K : PySem.W.Frag} {D : Addr} {g : TG} {tt : TT} {te : TE} {vs : List Nat} {st Qd : Hp → Prop}
theorem rem_st {l : List V} (h : Rem D g tt te vs σ st Qd l H) : st H := by cases l <;> exact h.1
theorem remCons {x : V} {r : List V} (h0 : st H) (h : g x (wipe σ vs) H fun σ2 H2 => wipe σ2 vs = wipe σ vs ∧ tt σ2 H2 fun b H3 => if b = true then te σ2 H3 fun y H4 => ∃ acc, H4 D = some (.lst acc) ∧ acc.length < sizeLine ∧ Rem D g tt te vs σ st Qd r (upd H4 D (.lst (acc ++ [y]))) else Rem D g tt te vs σ st Qd r H3) : Rem D g tt te vs σ st Qd (x :: r) H := ⟨h0, h⟩
theorem remNil (h0 : st H) (h : Qd H) : Rem D g tt te vs σ st Qd [] H := ⟨h0, h⟩
theorem drop_at {l : List V} {i : Nat} {x : V} (h : l[i]? = some x) : l.drop i = x :: l.drop (i + 1) := by
  obtain ⟨hi, e⟩ := List.getElem?_eq_some_iff.mp h
  rw [List.drop_eq_getElem_cons hi, e]
/-- over a written list -/
theorem lcUnrL {Qa : Addr → Hp → Prop} {a : Addr} {xs : List V} (hs : SqL K H a xs) (h : ∀ D, H D = none → Rem D g tt te vs σ (fun H' => SqL K H' a xs) (fun H' => Qa D H') xs (upd H D (.lst []))) :
    (∃ xs, SqL K H a xs) ∧ ∀ D, H D = none → ∃ W : Nat → Nat → Hp → Prop, (∃ m, W 0 m (upd H D (.lst []))) ∧ ∀ t m H, W t m H →
      ((Itl K a).stop t H ∧ Qa D H) ∨ ((Itl K a).go t H ∧ ∃ Nx : Hp → Prop, (∀ H', Nx H' → ∃ m', m' < m ∧ W (t + 1) m' H') ∧ ∀ x H', (Itl K a).yld t H x H' → g x (wipe σ vs) H' fun σ2 H2 => wipe σ2 vs = wipe σ vs ∧ tt σ2 H2 fun b H3 =>
        if b = true then te σ2 H3 fun y H4 => ∃ acc, H4 D = some (.lst acc) ∧ acc.length < sizeLine ∧ Nx (upd H4 D (.lst (acc ++ [y]))) else Nx H3) :=
  ⟨⟨_, hs⟩, fun D hD => lc_list (xs := xs) (fun i H' => Rem D g tt te vs σ (fun H' => SqL K H' a xs) (fun H' => Qa D H') (xs.drop i) H') (h D hD) (fun _ _ _ p => rem_st p) (fun i x H' hx p => by rw [drop_at hx] at p; exact p.2) fun H' p => by
    rw [List.drop_length] at p
    exact p.2⟩
/-- over a written tuple -/
theorem lcUnrT {Qa : Addr → Hp → Prop} {a : Addr} {xs : List V} (hs : SqT K H a xs) (h : ∀ D, H D = none → Rem D g tt te vs σ (fun H' => SqT K H' a xs) (fun H' => Qa D H') xs (upd H D (.lst []))) :
    (∃ xs, SqT K H a xs) ∧ ∀ D, H D = none → ∃ W : Nat → Nat → Hp → Prop, (∃ m, W 0 m (upd H D (.lst []))) ∧ ∀ t m H, W t m H →
      ((Itt K a).stop t H ∧ Qa D H) ∨ ((Itt K a).go t H ∧ ∃ Nx : Hp → Prop, (∀ H', Nx H' → ∃ m', m' < m ∧ W (t + 1) m' H') ∧ ∀ x H', (Itt K a).yld t H x H' → g x (wipe σ vs) H' fun σ2 H2 => wipe σ2 vs = wipe σ vs ∧ tt σ2 H2 fun b H3 =>
        if b = true then te σ2 H3 fun y H4 => ∃ acc, H4 D = some (.lst acc) ∧ acc.length < sizeLine ∧ Nx (upd H4 D (.lst (acc ++ [y]))) else Nx H3) :=
  ⟨⟨_, hs⟩, fun D hD => lc_tup (xs := xs) (fun i H' => Rem D g tt te vs σ (fun H' => SqT K H' a xs) (fun H' => Qa D H') (xs.drop i) H') (h D hD) (fun _ _ _ p => rem_st p) (fun i x H' hx p => by rw [drop_at hx] at p; exact p.2) fun H' p => by
    rw [List.drop_length] at p
    exact p.2⟩
/-- the ints of a range -/
def rgV (lo : Int) : Nat → List V
  | 0 => []
  | n + 1 => .int lo :: rgV (lo + 1) n
theorem rgV_at : ∀ (n : Nat) (lo : Int) (i : Nat), i < n → (rgV lo n)[i]? = some (.int (lo + i))
  | n + 1, lo, 0, _ => by simp [rgV]
  | n + 1, lo, i + 1, h => by
    show (rgV (lo + 1) n)[i]? = _
    rw [rgV_at n (lo + 1) i (by omega)]
    congr 2
    omega
theorem rgV_len : ∀ (n : Nat) (lo : Int), (rgV lo n).length = n
  | 0, _ => rfl
  | n + 1, lo => by show (rgV (lo + 1) n).length + 1 = _; rw [rgV_len n]
theorem lcUnrR {Qa : Addr → Hp → Prop} {lo : Int} {n : Nat} (h : ∀ D, H D = none → Rem D g tt te vs σ (fun _ => True) (fun H' => Qa D H') (rgV lo n) (upd H D (.lst []))) :
    ∀ D, H D = none → ∃ W : Nat → Nat → Hp → Prop, (∃ m, W 0 m (upd H D (.lst []))) ∧ ∀ t m H, W t m H →
      ((Itr lo n).stop t H ∧ Qa D H) ∨ ((Itr lo n).go t H ∧ ∃ Nx : Hp → Prop, (∀ H', Nx H' → ∃ m', m' < m ∧ W (t + 1) m' H') ∧ ∀ x H', (Itr lo n).yld t H x H' → g x (wipe σ vs) H' fun σ2 H2 => wipe σ2 vs = wipe σ vs ∧ tt σ2 H2 fun b H3 =>
        if b = true then te σ2 H3 fun y H4 => ∃ acc, H4 D = some (.lst acc) ∧ acc.length < sizeLine ∧ Nx (upd H4 D (.lst (acc ++ [y]))) else Nx H3) :=
  fun D hD => lc_range (lo := lo) (n := n) (fun i H' => Rem D g tt te vs σ (fun _ => True) (fun H' => Qa D H') ((rgV lo n).drop i) H') (h D hD) (fun i H' hi p => by rw [drop_at (rgV_at n lo i hi)] at p; exact p.2) fun H' p => by
    rw [List.drop_of_length_le (by rw [rgV_len]; exact Nat.le_refl _)] at p
    exact p.2
theorem yes {q : Bool → Hp → Prop} (h : q true H) : tYes σ H q := h
/-- two ways of an if that meet -/
theorem ifJ {D : Ends} {c : TT} {t u : TS} (J : L2.St → Hp → Prop) (h1 : (∀ σ' H', J σ' H' → D.nx σ' H') → tIfS c t u D σ H) (h2 : ∀ σ' H', J σ' H' → D.nx σ' H') : tIfS c t u D σ H := h1 h2
theorem truB {b : Bool} (e : b = true) (h : Q (.bl true) H) : Q (.bl b) H := by rw [e]; exact h
theorem cnt3 {p : Addr} {x y z k : Bool} (e : SqL K H p [.bl x, .bl y, .bl z]) (h : Q (.int (([x, y, z].count k : Nat) : Int)) H) : Cnt.rCntB K (.ref p) [.bl k] H Q := ⟨p, [x, y, z], k, rfl, rfl, e, h⟩
theorem feqF {a b c d : Int} (h1 : a = b) (h2 : c = d) : (!(decide (V.int a = V.int b) && decide (V.int c = V.int d))) = false := by
  rw [h1, h2, decide_eq_true rfl, decide_eq_true rfl]; rfl
theorem feqT {a b c d : Int} (h1 : a = b) (h2 : c = d) : (decide (V.int a = V.int b) && decide (V.int c = V.int d)) = true := by
  rw [h1, h2, decide_eq_true rfl, decide_eq_true rfl]; rfl
theorem neB {x y : Bool} (h : x = y) : (!decide (V.bl x = V.bl y)) = false := by rw [h, decide_eq_true rfl]; rfl
theorem tri (a b c d : Int) : (!decide (V.int (([decide (a < c ∨ a = c ∧ b < d), (decide (V.int a = V.int c) && decide (V.int b = V.int d)), decide (c < a ∨ c = a ∧ d < b)].count true : Nat) : Int) = V.int 1)) = false := by
  have e1 : decide (V.int a = V.int c) = decide (a = c) := by simp only [V.int.injEq]
  have e2 : decide (V.int b = V.int d) = decide (b = d) := by simp only [V.int.injEq]
  rw [e1, e2]
  rcases (by omega : a < c ∨ c < a ∨ (a = c ∧ b < d) ∨ (a = c ∧ d < b) ∨ (a = c ∧ b = d)) with h | h | ⟨h, g⟩ | ⟨h, g⟩ | ⟨h, g⟩
  · rw [decide_eq_true (show a < c ∨ a = c ∧ b < d by omega), decide_eq_false (show ¬ a = c by omega), decide_eq_false (show ¬ (c < a ∨ c = a ∧ d < b) by omega)]; rfl
  · rw [decide_eq_false (show ¬ (a < c ∨ a = c ∧ b < d) by omega), decide_eq_false (show ¬ a = c by omega), decide_eq_true (show (c < a ∨ c = a ∧ d < b) by omega)]; rfl
  · rw [decide_eq_true (show a < c ∨ a = c ∧ b < d by omega), decide_eq_false (show ¬ b = d by omega), Bool.and_false, decide_eq_false (show ¬ (c < a ∨ c = a ∧ d < b) by omega)]; rfl
  · rw [decide_eq_false (show ¬ (a < c ∨ a = c ∧ b < d) by omega), decide_eq_false (show ¬ b = d by omega), Bool.and_false, decide_eq_true (show (c < a ∨ c = a ∧ d < b) by omega)]; rfl
  · rw [decide_eq_false (show ¬ (a < c ∨ a = c ∧ b < d) by omega), decide_eq_true h, decide_eq_true g, decide_eq_false (show ¬ (c < a ∨ c = a ∧ d < b) by omega)]; rfl
theorem stepLt {a b c d t : Int} (h : 0 < t) : decide (a * t < c * t ∨ a * t = c * t ∧ b * t < d * t) = decide (a < c ∨ a = c ∧ b < d) := by
  have m1 : a * t < c * t ↔ a < c := Int.mul_lt_mul_right h
  have m2 : b * t < d * t ↔ b < d := Int.mul_lt_mul_right h
  have m3 : a * t = c * t ↔ a = c := ⟨fun e => Int.eq_of_mul_eq_mul_right (by omega) e, fun e => by rw [e]⟩
  rw [decide_eq_decide, m1, m2, m3]
theorem stepGt {a b c d t : Int} (h : 0 < t) : decide (a * (0 - t) < c * (0 - t) ∨ a * (0 - t) = c * (0 - t) ∧ b * (0 - t) < d * (0 - t)) = decide (c < a ∨ c = a ∧ d < b) := by
  have n : ∀ x : Int, x * (0 - t) = -(x * t) := fun x => by rw [Int.zero_sub, Int.mul_neg]
  have m1 : a * (0 - t) < c * (0 - t) ↔ c < a := by rw [n, n, Int.neg_lt_neg_iff]; exact Int.mul_lt_mul_right h
  have m2 : b * (0 - t) < d * (0 - t) ↔ d < b := by rw [n, n, Int.neg_lt_neg_iff]; exact Int.mul_lt_mul_right h
  have m3 : a * (0 - t) = c * (0 - t) ↔ c = a := ⟨fun e => (Int.eq_of_mul_eq_mul_right (by omega) e).symm, fun e => by rw [e]⟩
  rw [decide_eq_decide, m1, m2, m3]
end
end Rd

/-! ## heaps: what a step leaves -/
def Frm (a : Nat) (H H' : L2.Hp) : Prop := ∀ b o, H b = some o → b ≠ a → H' b = some o
section
open PySem L2
variable {H H' H1 H2 : Hp} {a b p : Nat} {o u : HO}
theorem Frm.get (f : Frm a H H') (h : H b = some o) (n : b ≠ a) : H' b = some o := f b o h n
theorem Sget (f : L2.Same H H') (h : H b = some o) : H' b = some o := f b o h
theorem Frm.free (f : Frm a H H') (n : b ≠ a) (h : H' b = none) : H b = none := by
  cases q : H b with
  | none => rfl
  | some o => rw [f b o q n] at h; cases h
theorem Sfree (f : L2.Same H H') (h : H' b = none) : H b = none := L2.Same.free f h
theorem updFree (h : upd H a o b = none) : H b = none := by
  unfold upd at h
  split at h
  · cases h
  · exact h
theorem updGet' (h : H b = some o) (n : b ≠ a) : upd H a u b = some o := by rw [upd_ne n]; exact h
theorem ne_none (h : H b = none) (h' : H a = some o) : a ≠ b := ne_of_none h' h
theorem ne_none' (h : H a = none) (h' : H b = some o) : a ≠ b := (ne_of_none h' h).symm
theorem updFresh (n : H a = none) (h : H b = some o) : upd H a u b = some o := updGet' h (ne_of_none h n)
theorem updMade {x dx : Nat} {v : HO} (n : H x = none) (m : H dx = none) (h : H b = some o) : upd (upd H dx u) x v b = some o := updGet' (updGet' h (ne_of_none h m)) (ne_of_none h n)
theorem Frm.get' (f : Frm a H H') (n : b ≠ a) (h : H b = some o) : H' b = some o := f b o h n
theorem updGet (n : b ≠ a) (h : H b = some o) : upd H a u b = some o := by rw [upd_ne n]; exact h
end

local macro_rules | `(tactic| walk_at "hp") => `(tactic| first
  | with_reducible assumption
  | with_reducible exact L2.upd_same
  | ((with_reducible apply updFresh); (· with_reducible assumption); (· walk_at "hp"))
  | ((with_reducible apply updMade); (· with_reducible assumption); (· with_reducible assumption); (· walk_at "hp"))
  | ((with_reducible apply updGet); (· walk_at "ne"); (· walk_at "hp"))
  | ((with_reducible apply Sget); (· with_reducible assumption); (· walk_at "hp"))
  | ((with_reducible apply Frm.get'); (· with_reducible assumption); (· walk_at "ne"); (· walk_at "hp"))
  | fail "hp")
local macro_rules | `(tactic| walk_at "ne") => `(tactic| first
  | with_reducible assumption
  | exact Ne.symm (by with_reducible assumption)
  | ((with_reducible apply ne_none); (· with_reducible assumption); (· walk_at "hp"))
  | ((with_reducible apply ne_none'); (· with_reducible assumption); (· walk_at "hp"))
  | ((with_reducible apply L2.ne_of); (· walk_at "hp"); (· walk_at "hp"); (· (intro z; cases z)))
  | fail "ne")
local macro_rules | `(tactic| walk_at "vr") => `(tactic| with_unfolding_all rfl)
local macro_rules | `(tactic| walk_at "hpl") => `(tactic| first
  | with_reducible assumption
  | ((with_reducible apply L2.SqL.of); walk_at "hp"))
local macro_rules | `(tactic| walk_at "hpt") => `(tactic| first
  | with_reducible assumption
  | ((with_reducible apply L2.SqT.of); walk_at "hp"))
local macro_rules | `(tactic| walk_at "hpq") => `(tactic| first
  | with_reducible assumption
  | (apply Or.inl; walk_at "hpl")
  | (apply Or.inr; walk_at "hpt"))
local macro_rules | `(tactic| walk_at "sc") => `(tactic| first
  | with_reducible assumption
  | omega
  | decide
  | ((repeat' split) <;> omega))
local macro_rules | `(tactic| walk_at "scp") => `(tactic| (unfold L2.CPow; omega))
local macro_rules | `(tactic| walk_at "ll") => `(tactic| with_unfolding_all exact Nat.le_of_ble_eq_true rfl)
theorem wm {i j : Int} (hi : -(2 ^ 200) < i ∧ i < 2 ^ 200) (hj : -(2 ^ 200) < j ∧ j < 2 ^ 200) : L2.CMulW i j :=
  L2.wide_mul (a := 200) (b := 200) (by omega) (by omega) (by decide) (by decide) (by decide)
theorem wd {i j : Int} (h : 0 < j) (hj : j < 2 ^ 200) : L2.CDivW i j :=
  L2.wide_div (b := 200) h (by omega) (by decide) (by decide)
local macro_rules | `(tactic| walk_at "scm") => `(tactic| exact wm ⟨by walk_at "sc", by walk_at "sc"⟩ ⟨by walk_at "sc", by walk_at "sc"⟩)
local macro_rules | `(tactic| walk_at "scd") => `(tactic| exact wd (by walk_at "sc") (by walk_at "sc"))
local macro_rules | `(tactic| walk_at "clsv") => `(tactic| first | exact L2.ClsV.ty _ | exact L2.ClsV.own _)
local macro_rules | `(tactic| walk_at "kit") => `(tactic| first | with_reducible exact Rd.kit_int_int | with_reducible exact Rd.kit_int_bool | with_reducible exact Rd.kit_bool_bool | with_reducible exact Rd.kit_str_str | with_reducible exact Rd.kit_bool_int | with_reducible exact Rd.kit_str_int | with_reducible exact Rd.kit_none_int | with_reducible exact Rd.kit_tuple_int | with_reducible exact Rd.kit_list_int | with_reducible exact Rd.kit_dict_int | with_reducible exact Rd.kit_str_bool | with_reducible exact Rd.kit_int_str | with_reducible assumption)
local macro_rules | `(tactic| walk_at "nf") => `(tactic| with_reducible assumption)
local macro_rules | `(tactic| walk_at "tyx") => `(tactic| first | exact L2.TyX.base (L2.TyOf.int _) | exact L2.TyX.base (L2.TyOf.bl _) | exact L2.TyX.base L2.TyOf.non | exact L2.TyX.base (L2.TyOf.str _) | ((with_reducible apply Rd.ty_tup); walk_at "hp") | ((with_reducible apply Rd.ty_lst); walk_at "hp"))
local macro_rules | `(tactic| walk_at "frm") => `(tactic| first | (intro b o hb; walk_at "hp") | (intro b o hb hn; walk_at "hp"))
local macro_rules | `(tactic| walk_at "nn") => `(tactic| first
  | with_reducible assumption
  | exact updFree (by with_reducible assumption)
  | exact updFree (updFree (by with_reducible assumption))
  | exact updFree (updFree (updFree (by with_reducible assumption)))
  | exact updFree (updFree (updFree (updFree (by with_reducible assumption))))
  | exact updFree (updFree (updFree (updFree (updFree (by with_reducible assumption)))))
  | exact updFree (updFree (updFree (updFree (updFree (updFree (by with_reducible assumption))))))
  | exact updFree (updFree (updFree (updFree (updFree (updFree (updFree (by with_reducible assumption)))))))
  | exact updFree (updFree (updFree (updFree (updFree (updFree (updFree (updFree (by with_reducible assumption))))))))
  | exact updFree (updFree (updFree (updFree (updFree (updFree (updFree (updFree (updFree (by with_reducible assumption)))))))))
  | exact updFree (updFree (updFree (updFree (updFree (updFree (updFree (updFree (updFree (updFree (by with_reducible assumption))))))))))
  | exact updFree (updFree (updFree (updFree (updFree (updFree (updFree (updFree (updFree (updFree (updFree (by with_reducible assumption)))))))))))
  | exact updFree (updFree (updFree (updFree (updFree (updFree (updFree (updFree (updFree (updFree (updFree (updFree (by with_reducible assumption))))))))))))
  | exact updFree (updFree (updFree (updFree (updFree (updFree (updFree (updFree (updFree (updFree (updFree (updFree (updFree (by with_reducible assumption)))))))))))))
  | exact updFree (updFree (updFree (updFree (updFree (updFree (updFree (updFree (updFree (updFree (updFree (updFree (updFree (updFree (by with_reducible assumption))))))))))))))
  | exact updFree (updFree (updFree (updFree (updFree (updFree (updFree (updFree (updFree (updFree (updFree (updFree (updFree (updFree (updFree (by with_reducible assumption)))))))))))))))
  | exact updFree (updFree (updFree (updFree (updFree (updFree (updFree (updFree (updFree (updFree (updFree (updFree (updFree (updFree (updFree (updFree (by with_reducible assumption))))))))))))))))
  | exact updFree (updFree (updFree (updFree (updFree (updFree (updFree (updFree (updFree (updFree (updFree (updFree (updFree (updFree (updFree (updFree (updFree (by with_reducible assumption)))))))))))))))))
  | exact updFree (updFree (updFree (updFree (updFree (updFree (updFree (updFree (updFree (updFree (updFree (updFree (updFree (updFree (updFree (updFree (updFree (updFree (by with_reducible assumption))))))))))))))))))
  | ((with_reducible apply Sfree); (· with_reducible assumption); (· walk_at "nn")))
local macro_rules | `(tactic| walk_at "em") => `(tactic| first | rfl | (simp only [Int.emod_add_emod, Int.emod_sub_emod, Int.sub_emod_emod, Int.emod_emod]; first | done | rfl | (congr 1; omega)))
local macro_rules | `(tactic| walk_at "dp") => `(tactic| first | ((with_reducible apply Rd.dp_nil); walk_at "hpl") | ((with_reducible apply Rd.dp_listI); walk_at "hpl") | ((with_reducible apply Rd.dp_pair); walk_at "hpt") | ((with_reducible apply L2.Dp.lst); (· walk_at "hpl"); (· walk_at "dpa")) | ((with_reducible apply L2.Dp.tup); (· walk_at "hpt"); (· walk_at "dpa")))
local macro_rules | `(tactic| walk_at "dpt") => `(tactic| first | ((with_reducible apply Rd.dp_pair); (· walk_at "hpt")) | ((with_reducible apply L2.Dp.tup); (· walk_at "hpt"); (· walk_at "dpa")) | fail "dpt")
local macro_rules | `(tactic| walk_at "dpa") => `(tactic| first | with_reducible exact L2.DpAll.nil | ((with_reducible apply L2.DpAll.cons); (· walk_at "dp1"); (· walk_at "dpa")))
local macro_rules | `(tactic| walk_at "dp1") => `(tactic| first | with_reducible exact L2.Dp.int _ | with_reducible exact L2.Dp.bl _ | with_reducible exact L2.Dp.str _ | with_reducible exact L2.Dp.non | walk_at "dp")
local macro_rules | `(tactic| walk_at "shp") => `(tactic| first | with_reducible exact Rd.shaped_pair _ _ | with_reducible exact Rd.shaped_listI _ | with_reducible exact Rd.shaped_nil | (simp only [PySem.SeqAt.shaped, PySem.PyData.canLay0, PySem.PyData.canLayAll0, PySem.PyData.depth, PySem.PyData.depthAll]; rfl))
local macro_rules | `(tactic| walk_at "ty0") => `(tactic| exact Own.ty_int)
local macro_rules | `(tactic| walk_at "sfl") => `(tactic| first | with_unfolding_all exact Nat.le_of_ble_eq_true rfl | ((refine Rd.lput ?_); (repeat refine Rd.lputs ?_); with_unfolding_all exact Nat.le_of_ble_eq_true rfl))
local macro_rules | `(tactic| walk_at "ixn") => `(tactic| first | with_unfolding_all rfl | decide)
local macro_rules | `(tactic| walk_at "bT") => `(tactic| first | (simp only [PySem.PyData.eqv, PySem.PyData.eqvAll, beq_self_eq_true, Bool.and_self]; done) | (exact decide_eq_true rfl) | (simp only [L2.V.int.injEq, L2.V.bl.injEq, decide_eq_true_eq]; omega) | with_unfolding_all rfl | with_reducible assumption | exact decide_eq_true (by walk_at "sc"))
local macro_rules | `(tactic| walk_at "bF") => `(tactic| first | (simp only [← Int.sub_emod, decide_true, Bool.not_true]; done) | (simp only [L2.V.int.injEq, Int.emod_eq_emod_iff_emod_sub_eq_zero, eq_self, decide_true, Bool.true_and, Bool.not_true]; done) | (simp only [Rd.eqv_pairV, Rd.eqv_listI, Rd.eqv_nil, Bool.and_self, Bool.not_true, decide_true]; done) | with_unfolding_all rfl | with_reducible assumption | exact decide_eq_false (by walk_at "sc") | (simp only [L2.V.int.injEq, L2.V.bl.injEq, decide_eq_false_iff_not, Bool.not_eq_false', Bool.not_eq_eq_eq_not, Bool.not_false, decide_eq_true_eq]; omega) | (simp only [L2.V.int.injEq, Bool.and_eq_false_iff, decide_eq_false_iff_not]; first | omega | exact Or.inl (by omega)))

/-! ## the law's source of numbers: two ints in a list -/
section
open PySem L2
/-- what stands in the list -/
def SrcO (o : HO) : Prop := ∃ x y : Int, o = .lst [.int x, .int y] ∧ 0 ≤ x ∧ 0 ≤ y ∧ y < 2147483647
/-- a draw -/
abbrev spDraw : Sp := fun vs H Q _ => ∃ (a : Addr) (o : HO) (m : Int), vs = [.ref a, .int m] ∧ H a = some o ∧ SrcO o ∧ 0 < m ∧ m < 2 ^ 190 ∧
  ∀ (d : Int) (o' : HO), 0 ≤ d → d < m → SrcO o' → Q (.int d) (upd H a o')
/-- a fresh source -/
abbrev spSource (K : PySem.W.Frag) : Sp := fun vs H Q _ => ∃ (a : Addr) (ns : List Int) (t : Int), vs = [.ref a, .int t] ∧ SqL K H a (ns.map V.int) ∧ 0 ≤ t ∧ t < 1000000 ∧
  ∀ (p : Addr) (o : HO), H p = none → SrcO o → Q (.ref p) (upd H p o)
theorem sq_nonneg {y : Int} (h : 0 ≤ y) : 0 ≤ y * y := Int.mul_nonneg h h
theorem atI_map {ns : List Int} {t : Int} (h0 : 0 ≤ t) (h : t < (ns.length : Int)) : ∃ z : Int, atI (ns.map V.int) t = some (.int z) := by
  obtain ⟨j, rfl⟩ : ∃ j : Nat, t = (j : Int) := ⟨t.toNat, by omega⟩
  have hj : j < ns.length := by omega
  exact ⟨ns[j], atI_nat (by rw [List.getElem?_map, List.getElem?_eq_getElem hj]; rfl)⟩
/-- an item of a list of ints at a drawn place: what all its items keep -/
theorem pickI {ns : List Int} {P : Int → Prop} (hP : ∀ n ∈ ns, P n) {d : Int} (h0 : 0 ≤ d) (h : d < (ns.length : Int)) : ∃ n : Int, atI (ns.map V.int) d = some (.int n) ∧ P n := by
  obtain ⟨j, rfl⟩ : ∃ j : Nat, d = (j : Int) := ⟨d.toNat, by omega⟩
  have hj : j < ns.length := by omega
  exact ⟨ns[j], atI_nat (by rw [List.getElem?_map, List.getElem?_eq_getElem hj]; rfl), hP _ (List.getElem_mem hj)⟩
end

namespace Pk07
open PySem L2
def top (i : Nat) : Stmt := PySem.Challenge.pw_ringindexes_k07_whole_forms_and_signs.main.body.getD i (.Pass ⟨0, 0, 0, 0⟩)
abbrev s_is_whole : Stmt := top 6
abbrev s_read_number : Stmt := top 10
abbrev s_Formu__initu_ : Stmt := inClass (top 13) 0
abbrev s_as_form : Stmt := top 15
abbrev s_Formu__addu_ : Stmt := inClass (top 13) 2
abbrev s_Formu__negu_ : Stmt := inClass (top 13) 8
abbrev s_Formu__subu_ : Stmt := inClass (top 13) 4
abbrev s_Formu__rsubu_ : Stmt := inClass (top 13) 5
abbrev s_Formu__mulu_ : Stmt := inClass (top 13) 6
abbrev s_Formu__rmulu_ : Stmt := inClass (top 13) 7
abbrev s_Formu__equ_ : Stmt := inClass (top 13) 9
abbrev s_place_of : Stmt := top 16
abbrev s_Formu__ltu_ : Stmt := inClass (top 13) 10
abbrev s_Formu__leu_ : Stmt := inClass (top 13) 11
abbrev s_Formu__gtu_ : Stmt := inClass (top 13) 12
abbrev s_Formu__geu_ : Stmt := inClass (top 13) 13
abbrev s_read_signed : Stmt := top 21
abbrev s_read_slope : Stmt := top 20
abbrev s_form_of_words : Stmt := top 19
abbrev s_show_slope : Stmt := top 18
abbrev s_show_form : Stmt := top 17
abbrev s_Form_read : Stmt := inClass (top 13) 14
abbrev s_l_source : Stmt := top 23
abbrev s_l_draw : Stmt := top 24
abbrev s_l_form : Stmt := top 26
abbrev s_l_alike : Stmt := top 28
abbrev s_l_ordered : Stmt := top 29
abbrev s_law : Stmt := top 30
theorem q_base_slope : ¬ (("base" : Str) = "slope") := by decide +kernel
theorem q_slope_base : ¬ (("slope" : Str) = "base") := by decide +kernel
local macro_rules | `(tactic| walk_at "lk") => `(tactic| first | with_unfolding_all rfl | (simp only [List.lookup, L2.putF, beq_iff_eq, beq_self_eq_true, q_base_slope, (beq_eq_false_iff_ne.mpr q_base_slope), q_slope_base, (beq_eq_false_iff_ne.mpr q_slope_base)]; first | done | rfl))
structure Adr where
  f_is_whole : Addr
  d_is_whole : FuncData
  f_read_number : Addr
  d_read_number : FuncData
  f_Formu__initu_ : Addr
  d_Formu__initu_ : FuncData
  f_as_form : Addr
  d_as_form : FuncData
  f_Formu__addu_ : Addr
  d_Formu__addu_ : FuncData
  f_Formu__negu_ : Addr
  d_Formu__negu_ : FuncData
  f_Formu__subu_ : Addr
  d_Formu__subu_ : FuncData
  f_Formu__rsubu_ : Addr
  d_Formu__rsubu_ : FuncData
  f_Formu__mulu_ : Addr
  d_Formu__mulu_ : FuncData
  f_Formu__rmulu_ : Addr
  d_Formu__rmulu_ : FuncData
  f_Formu__equ_ : Addr
  d_Formu__equ_ : FuncData
  f_place_of : Addr
  d_place_of : FuncData
  f_Formu__ltu_ : Addr
  d_Formu__ltu_ : FuncData
  f_Formu__leu_ : Addr
  d_Formu__leu_ : FuncData
  f_Formu__gtu_ : Addr
  d_Formu__gtu_ : FuncData
  f_Formu__geu_ : Addr
  d_Formu__geu_ : FuncData
  f_read_signed : Addr
  d_read_signed : FuncData
  f_read_slope : Addr
  d_read_slope : FuncData
  f_form_of_words : Addr
  d_form_of_words : FuncData
  f_show_slope : Addr
  d_show_slope : FuncData
  f_show_form : Addr
  d_show_form : FuncData
  f_Form_read : Addr
  d_Form_read : FuncData
  f_l_source : Addr
  d_l_source : FuncData
  f_l_draw : Addr
  d_l_draw : FuncData
  f_l_form : Addr
  d_l_form : FuncData
  f_l_alike : Addr
  d_l_alike : FuncData
  f_l_ordered : Addr
  d_l_ordered : FuncData
  f_law : Addr
  d_law : FuncData
  c_Form : Addr
  t_GREATEST_SIZE : Tok
  t_MOST_DIGITS : Tok
structure IsC (K : PySem.W.Frag) (C : Addr) : Prop where
  ha : PySem.W.findIn K (.ref C) "__class__" = some (some (.builtin "object.__class__"))
  hn : PySem.W.specialIn K (.builtin "object.__class__") "__get__" = some (some (.builtin "getset_descriptor.__get__"))
  htk : PySem.W.takesIn K (.builtin "object.__class__") = some true
  hm : PySem.W.mroIn K C (.type "object") = some true
theorem ty_own {K : PySem.W.Frag} {H : Hp} {a C dx : Addr} {fs : List (Str × V)} (e : H a = some (.ins C dx fs)) (k : Cls K C) (i : IsC K C) : TyX K H (.ref a) (.ref C) := .base (.ins e k i.ha i.hn i.htk i.hm)
local macro_rules | `(tactic| walk_at "tyx") => `(tactic| ((with_reducible apply ty_own); (· walk_at "hp"); (· with_reducible assumption); (· with_reducible assumption)))
structure Txt (w : World) (K : PySem.W.Frag) (mg : Str → Option Value) (A : Adr) : Prop where
  n_abs : mg "abs" = none
  n_bool : mg "bool" = none
  n_int : mg "int" = none
  n_isinstance : mg "isinstance" = none
  n_len : mg "len" = none
  n_max : mg "max" = none
  n_min : mg "min" = none
  n_range : mg "range" = none
  n_str : mg "str" = none
  m_GREATEST_SIZE : mg "GREATEST_SIZE" = some (.int (1000000000000000000000000000000) A.t_GREATEST_SIZE)
  m_MOST_DIGITS : mg "MOST_DIGITS" = some (.int (40) A.t_MOST_DIGITS)
  m_Form : mg "Form" = some (.ref A.c_Form)
  k_Form : Cls K A.c_Form
  n_Form_slope : NoAttr K A.c_Form "slope"
  n_Form_base : NoAttr K A.c_Form "base"
  K_Form : Mk K A.c_Form A.f_Formu__initu_
  i_Form : IsC K A.c_Form
  kt_Form_Form : PySem.W.kitOne K (.ref A.c_Form) (.ref A.c_Form) = some true
  kt_int_Form : PySem.W.kitOne K (.type "int") (.ref A.c_Form) = some false
  m_is_whole : mg "is_whole" = some (.ref A.f_is_whole)
  F_is_whole : Fun K "is_whole" "is_whole" s_is_whole A.f_is_whole A.d_is_whole
  b_is_whole : Binds K A.d_is_whole ["thing"] []
  m_read_number : mg "read_number" = some (.ref A.f_read_number)
  F_read_number : Fun K "read_number" "read_number" s_read_number A.f_read_number A.d_read_number
  b_read_number : Binds K A.d_read_number ["text", "most"] []
  F_Formu__initu_ : Fun K "__init__" "Form.__init__" s_Formu__initu_ A.f_Formu__initu_ A.d_Formu__initu_
  b_Formu__initu_ : Binds K A.d_Formu__initu_ ["self", "slope", "base"] []
  m_as_form : mg "as_form" = some (.ref A.f_as_form)
  F_as_form : Fun K "as_form" "as_form" s_as_form A.f_as_form A.d_as_form
  b_as_form : Binds K A.d_as_form ["thing"] []
  F_Formu__addu_ : Fun K "__add__" "Form.__add__" s_Formu__addu_ A.f_Formu__addu_ A.d_Formu__addu_
  b_Formu__addu_ : Binds K A.d_Formu__addu_ ["self", "other"] []
  F_Formu__negu_ : Fun K "__neg__" "Form.__neg__" s_Formu__negu_ A.f_Formu__negu_ A.d_Formu__negu_
  b_Formu__negu_ : Binds K A.d_Formu__negu_ ["self"] []
  F_Formu__subu_ : Fun K "__sub__" "Form.__sub__" s_Formu__subu_ A.f_Formu__subu_ A.d_Formu__subu_
  b_Formu__subu_ : Binds K A.d_Formu__subu_ ["self", "other"] []
  F_Formu__rsubu_ : Fun K "__rsub__" "Form.__rsub__" s_Formu__rsubu_ A.f_Formu__rsubu_ A.d_Formu__rsubu_
  b_Formu__rsubu_ : Binds K A.d_Formu__rsubu_ ["self", "other"] []
  F_Formu__mulu_ : Fun K "__mul__" "Form.__mul__" s_Formu__mulu_ A.f_Formu__mulu_ A.d_Formu__mulu_
  b_Formu__mulu_ : Binds K A.d_Formu__mulu_ ["self", "other"] []
  F_Formu__rmulu_ : Fun K "__rmul__" "Form.__rmul__" s_Formu__rmulu_ A.f_Formu__rmulu_ A.d_Formu__rmulu_
  b_Formu__rmulu_ : Binds K A.d_Formu__rmulu_ ["self", "other"] []
  F_Formu__equ_ : Fun K "__eq__" "Form.__eq__" s_Formu__equ_ A.f_Formu__equ_ A.d_Formu__equ_
  b_Formu__equ_ : Binds K A.d_Formu__equ_ ["self", "other"] []
  m_place_of : mg "place_of" = some (.ref A.f_place_of)
  F_place_of : Fun K "place_of" "place_of" s_place_of A.f_place_of A.d_place_of
  b_place_of : Binds K A.d_place_of ["thing"] []
  F_Formu__ltu_ : Fun K "__lt__" "Form.__lt__" s_Formu__ltu_ A.f_Formu__ltu_ A.d_Formu__ltu_
  b_Formu__ltu_ : Binds K A.d_Formu__ltu_ ["self", "other"] []
  F_Formu__leu_ : Fun K "__le__" "Form.__le__" s_Formu__leu_ A.f_Formu__leu_ A.d_Formu__leu_
  b_Formu__leu_ : Binds K A.d_Formu__leu_ ["self", "other"] []
  F_Formu__gtu_ : Fun K "__gt__" "Form.__gt__" s_Formu__gtu_ A.f_Formu__gtu_ A.d_Formu__gtu_
  b_Formu__gtu_ : Binds K A.d_Formu__gtu_ ["self", "other"] []
  F_Formu__geu_ : Fun K "__ge__" "Form.__ge__" s_Formu__geu_ A.f_Formu__geu_ A.d_Formu__geu_
  b_Formu__geu_ : Binds K A.d_Formu__geu_ ["self", "other"] []
  m_read_signed : mg "read_signed" = some (.ref A.f_read_signed)
  F_read_signed : Fun K "read_signed" "read_signed" s_read_signed A.f_read_signed A.d_read_signed
  b_read_signed : Binds K A.d_read_signed ["word"] []
  m_read_slope : mg "read_slope" = some (.ref A.f_read_slope)
  F_read_slope : Fun K "read_slope" "read_slope" s_read_slope A.f_read_slope A.d_read_slope
  b_read_slope : Binds K A.d_read_slope ["word"] []
  m_form_of_words : mg "form_of_words" = some (.ref A.f_form_of_words)
  F_form_of_words : Fun K "form_of_words" "form_of_words" s_form_of_words A.f_form_of_words A.d_form_of_words
  b_form_of_words : Binds K A.d_form_of_words ["words"] []
  m_show_slope : mg "show_slope" = some (.ref A.f_show_slope)
  F_show_slope : Fun K "show_slope" "show_slope" s_show_slope A.f_show_slope A.d_show_slope
  b_show_slope : Binds K A.d_show_slope ["slope"] []
  m_show_form : mg "show_form" = some (.ref A.f_show_form)
  F_show_form : Fun K "show_form" "show_form" s_show_form A.f_show_form A.d_show_form
  b_show_form : Binds K A.d_show_form ["form"] []
  S_Form_read : Sta.SMet K A.c_Form "read" A.f_Form_read
  F_Form_read : Fun K "read" "Form.read" s_Form_read A.f_Form_read A.d_Form_read
  b_Form_read : Binds K A.d_Form_read ["text"] []
  m_l_source : mg "_law_source" = some (.ref A.f_l_source)
  F_l_source : Fun K "_law_source" "_law_source" s_l_source A.f_l_source A.d_l_source
  b_l_source : Binds K A.d_l_source ["_law_script", "_law_turn"] []
  m_l_draw : mg "_law_draw" = some (.ref A.f_l_draw)
  F_l_draw : Fun K "_law_draw" "_law_draw" s_l_draw A.f_l_draw A.d_l_draw
  b_l_draw : Binds K A.d_l_draw ["_law_source_here", "_law_amount"] []
  m_l_form : mg "_law_form" = some (.ref A.f_l_form)
  F_l_form : Fun K "_law_form" "_law_form" s_l_form A.f_l_form A.d_l_form
  b_l_form : Binds K A.d_l_form ["_law_source_here"] []
  m_l_alike : mg "_law_alike" = some (.ref A.f_l_alike)
  F_l_alike : Fun K "_law_alike" "_law_alike" s_l_alike A.f_l_alike A.d_l_alike
  b_l_alike : Binds K A.d_l_alike ["_law_a", "_law_b", "_law_c", "_law_k"] []
  m_l_ordered : mg "_law_ordered" = some (.ref A.f_l_ordered)
  F_l_ordered : Fun K "_law_ordered" "_law_ordered" s_l_ordered A.f_l_ordered A.d_l_ordered
  b_l_ordered : Binds K A.d_l_ordered ["_law_a", "_law_b", "_law_c", "_law_k"] []
  m_law : mg "law" = some (.ref A.f_law)
  F_law : Fun K "law" "law" s_law A.f_law A.d_law
  b_law : Binds K A.d_law ["_law_script"] []
  O_Formu__addu__S : Own.Bin K A.c_Form A.f_Formu__addu_ .Add
  O_Formu__addu__T : Own.BinT K A.c_Form A.f_Formu__addu_ .Add "int"
  O_Formu__negu__1 : Own.Sp1 K A.c_Form "__neg__" A.f_Formu__negu_
  O_Formu__subu__S : Own.Bin K A.c_Form A.f_Formu__subu_ .Sub
  O_Formu__subu__T : Own.BinT K A.c_Form A.f_Formu__subu_ .Sub "int"
  O_Formu__rsubu__R : Own.BinR K A.c_Form A.f_Formu__rsubu_ .Sub
  O_Formu__mulu__S : Own.Bin K A.c_Form A.f_Formu__mulu_ .Mult
  O_Formu__mulu__T : Own.BinT K A.c_Form A.f_Formu__mulu_ .Mult "int"
  O_Formu__rmulu__R : Own.BinR K A.c_Form A.f_Formu__rmulu_ .Mult
  O_Formu__equ__1 : Own.Sp1 K A.c_Form "__eq__" A.f_Formu__equ_
  O_Formu__equ__N : Own.Ne K A.c_Form A.f_Formu__equ_
  O_Formu__ltu__1 : Own.Sp1 K A.c_Form "__lt__" A.f_Formu__ltu_
  O_Formu__leu__1 : Own.Sp1 K A.c_Form "__le__" A.f_Formu__leu_
  O_Formu__gtu__1 : Own.Sp1 K A.c_Form "__gt__" A.f_Formu__gtu_
  O_Formu__geu__1 : Own.Sp1 K A.c_Form "__ge__" A.f_Formu__geu_
  nf_Form_Form : PySem.W.notFirst K A.c_Form (.ref A.c_Form) = true
  nf_int_Form : PySem.W.notFirst K A.c_Form (.type "int") = true

/-- a form's fields -/
def fF (s b : Int) : List (Str × V) := [("slope", .int s), ("base", .int b)]
theorem fF_slope (s b : Int) : (fF s b).lookup ("slope" : Str) = some (V.int s) := by unfold fF; walk_at "lk"
theorem fF_base (s b : Int) : (fF s b).lookup ("base" : Str) = some (V.int b) := by unfold fF; walk_at "lk"
theorem fF_put (s b : Int) : putF "base" (.int b) (putF "slope" (.int s) []) = fF s b := by
  show (if ("slope" : Str) = "base" then _ else (("slope" : Str), V.int s) :: putF "base" (V.int b) []) = _
  rw [if_neg q_slope_base] <;> rfl
local macro_rules | `(tactic| walk_at "lk") => `(tactic| first | exact fF_slope _ _ | exact fF_base _ _)
def Form (A : Adr) (H : Hp) (p : Addr) (s b : Int) : Prop := ∃ dx, H p = some (.ins A.c_Form dx (fF s b))
/-- what may stand beside a form: a form, or an int -/
def ArgF (A : Adr) (H : Hp) (y : V) (c d : Int) : Prop := (∃ q dq, y = .ref q ∧ H q = some (.ins A.c_Form dq (fF c d))) ∨ (c = 0 ∧ y = .int d)
local macro_rules | `(tactic| walk_at "argf") => `(tactic| first | with_reducible assumption | exact Or.inl ⟨_, _, rfl, by walk_at "hp"⟩ | exact Or.inr ⟨rfl, rfl⟩)

local macro_rules | `(tactic| walk_at "lg") => `(tactic| exact Tf.lg (by omega))
local macro_rules | `(tactic| walk_at "sz") => `(tactic| first | omega | exact Nat.le_of_lt (L2.small1000 (by simp only [Tf.len_app]; omega)) | exact Nat.le_of_lt (L2.small1000 (by omega)) | exact L2.small1000 (by simp only [List.length_map, List.length_append, List.length_cons, List.length_nil]; omega) | fail "sz")
local macro_rules | `(tactic| walk_at "it") => `(tactic| exact Tx.int_nS (by omega) (by omega))
local macro_rules | `(tactic| walk_at "bT") => `(tactic| first | with_reducible assumption | with_unfolding_all rfl | fail "bT")
local macro_rules | `(tactic| walk_at "bF") => `(tactic| first | with_reducible assumption | with_unfolding_all rfl | exact decide_eq_false (by omega) | fail "bF")

local macro_rules | `(tactic| walk_at "bF") => `(tactic| first | with_reducible assumption | (refine Rd.feqF ?_ ?_ <;> (first | omega | (simp only [Int.add_mul]; done) | (simp only [Int.add_mul]; omega) | fail "x")) | (refine Rd.neB ?_; (rw [Bool.eq_iff_iff]; simp only [decide_eq_true_eq, Bool.not_eq_true', decide_eq_false_iff_not]; omega)) | fail "bF")
local macro_rules | `(tactic| walk_at "bT") => `(tactic| first | with_reducible assumption | (refine Rd.feqT ?_ ?_ <;> (first | omega | (simp only [Int.add_mul]; done) | (simp only [Int.add_mul]; omega) | fail "x")) | fail "bT")

section
variable {P : Program} {w : World} {K : PySem.W.Frag} {mg : Str → Option Value} {base : Heap} {A : Adr}
/-! is_whole -/
theorem sc_is_whole : FnScope ["thing"] ["thing"] (defScope s_is_whole) := ⟨rfl, rfl, rfl, by decide +kernel, rfl, by decide +kernel, by decide +kernel⟩
abbrev sp_is_whole (K : PySem.W.Frag) (A : Adr) : Sp := fun vs H Q _ => ∃ i : Int, vs = [.int i] ∧ Q (.bl true) H
theorem ok_is_whole (T : Txt w K mg A) : FnOk P w K mg base CX0 1 A.f_is_whole A.d_is_whole ["thing"] (sp_is_whole K A) := by
  refine T.F_is_whole.ok sc_is_whole (fun vs H Q E h => ?_) (fun cdv Ar outer s H vs Q E hr h => ?_)
  · obtain ⟨i, rfl, k⟩ := h
    rfl
  · obtain ⟨i, rfl, k⟩ := h
    have hu := hu_of hr
    have t_i_Form := T.i_Form
    have t_kt_Form_Form := T.kt_Form_Form
    have t_kt_int_Form := T.kt_int_Form
    have t_nf_Form_Form := T.nf_Form_Form
    have t_nf_int_Form := T.nf_int_Form
    have t_k_Form := T.k_Form
    refine ⟨_, (pss_one (ps_ret (pe_and (pe_callB (Rd.isi (K := K) rfl) (by rfl) T.n_isinstance (by decide +kernel) (pa_cons (pv 0) (pa_cons (pe_bltn (v := .ty "int") (u := .type "int") (by rfl) T.n_int (by decide +kernel) rfl) pa_nil))) (pe_one (pe_not (pe_callB (Rd.isi (K := K) rfl) (by rfl) T.n_isinstance (by decide +kernel) (pa_cons (pv 0) (pa_cons (pe_bltn (v := .ty "bool") (u := .type "bool") (by rfl) T.n_bool (by decide +kernel) rfl) pa_nil)))))))), ?_⟩
    try dsimp only [L2.cxOf, L2.Cx.nox, L2.Cx.wish]
    with_reducible refine Rd.ret (Rd.andV (Rd.cB (Rd.cons (Rd.var (by walk_at "vr") (Rd.cons (Rd.c (Rd.nil ?_)))))))
    refine ⟨_, _, _, _, _, rfl, (by walk_at "clsv"), (by walk_at "tyx"), (by walk_at "kit"), ?_⟩
    with_reducible refine Rd.bl (Rd.iteT (by first | with_unfolding_all rfl | walk_at "bT") (Rd.notV (Rd.cB (Rd.cons (Rd.var (by walk_at "vr") (Rd.cons (Rd.c (Rd.nil ?_))))))))
    refine ⟨_, _, _, _, _, rfl, (by walk_at "clsv"), (by walk_at "tyx"), (by walk_at "kit"), ?_⟩
    with_reducible refine Rd.bl ?_
    exact k
/-! read_number -/
theorem sc_read_number : FnScope ["text", "most"] ["text", "most"] (defScope s_read_number) := ⟨rfl, rfl, rfl, by decide +kernel, rfl, by decide +kernel, by decide +kernel⟩
abbrev sp_read_number (K : PySem.W.Frag) (A : Adr) : Sp := fun vs H Q _ => ∃ i : Int, vs = [.str (Tx.nS i), .int 40] ∧ 0 ≤ i ∧ i < 10000000000000000000000000000000000000000 ∧ Q (.int i) H
theorem ok_read_number (T : Txt w K mg A) : FnOk P w K mg base CX0 1 A.f_read_number A.d_read_number ["text", "most"] (sp_read_number K A) := by
  refine T.F_read_number.ok sc_read_number (fun vs H Q E h => ?_) (fun cdv Ar outer s H vs Q E hr h => ?_)
  · obtain ⟨i, rfl, h0, h1, k⟩ := h
    rfl
  · obtain ⟨i, rfl, h0, h1, k⟩ := h
    have hu := hu_of hr
    have t_i_Form := T.i_Form
    have t_kt_Form_Form := T.kt_Form_Form
    have t_kt_int_Form := T.kt_int_Form
    have t_nf_Form_Form := T.nf_Form_Form
    have t_nf_int_Form := T.nf_int_Form
    have t_k_Form := T.k_Form
    have l1 : (Tx.nS i).length ≤ 40 := Tx.nS_len (k := 40) h0 (by decide) (by omega)
    have a1 : Txt.isascii (Tx.nS i) = true := Tx.nS_ascii i h0
    have a2 : Txt.isdigit (Tx.nS i) = true := Tx.nS_digit h0
    rcases (by omega : i = 0 ∨ 0 < i) with rfl | hp
    · have a3 : Txt.startswith (Tx.nS 0) "0" = true := by decide +kernel
      have a4 : (!decide (V.str (Tx.nS 0) = V.str "0")) = false := by rw [Tf.nS_0]; rfl
      refine ⟨_, (pss_cons (ps_if (PW.pt (pw_or (pt_cmpR op_gt (pe_callB call_len_str (by rfl) T.n_len PySem.boot_len (pa_cons (pv 0) pa_nil)) (pv 1) (nomark _)) (pw_or1 (pt_not (PW.pt (pw_and (pt_val (pe_m0 PySem.F.slot_str_isascii PySem.F.type_str_isascii mt_isascii (pv 0))) (pw_and1 (pt_val (pe_m0 PySem.F.slot_str_isdigit PySem.F.type_str_isdigit mt_isdigit (pv 0)))))))))) (pss_one (ps_ret pe_non)) pss_nil)
      (pss_cons (ps_if (PW.pt (pw_and (pt_val (pe_m1 PySem.F.slot_str_startswith PySem.F.type_str_startswith mt_startswith (pv 0) pe_str)) (pw_and1 (pt_cmpR op_ne (pv 0) pe_str (nomark _))))) (pss_one (ps_ret pe_non)) pss_nil)
      (pss_one (ps_ret (pe_callTy call_int_str (by rfl) T.n_int (by decide +kernel) (pa_cons (pv 0) pa_nil)))))), ?_⟩
      try dsimp only [L2.cxOf, L2.Cx.nox, L2.Cx.wish]
      with_reducible refine Rd.seq (Rd.ifS (Rd.or (Rd.test (Rd.op (Rd.cB (Rd.cons (Rd.var (by walk_at "vr") (Rd.nil ?_))))))))
      refine ⟨_, rfl, (by walk_at "sz"), ?_⟩
      with_reducible refine Rd.var (by walk_at "vr") (Rd.i0 (Rd.bl (Rd.iteF (by walk_at "bF") (Rd.not (Rd.and (Rd.tb (Rd.m0 (Rd.var (by walk_at "vr") (⟨⟨_, rfl⟩, ⟨_, rfl, rfl, trivial, (Rd.bl (Rd.iteT (by walk_at "bT") ?_))⟩⟩)))))))))
      with_reducible refine Rd.tb (Rd.m0 (Rd.var (by walk_at "vr") (⟨⟨_, rfl⟩, ⟨_, rfl, rfl, trivial, (Rd.bl (Rd.iteF (by walk_at "bF") (Rd.next (Rd.seq (Rd.ifS (Rd.and (Rd.tb (Rd.m1 ?_))))))))⟩⟩)))
      with_reducible refine Rd.var (by walk_at "vr") (⟨⟨_, rfl⟩, (Rd.c (⟨_, _, rfl, rfl, (Rd.bl (Rd.iteT (by walk_at "bT") (Rd.test (Rd.op (Rd.var (by walk_at "vr") (Rd.c (Rd.neS (by walk_at "vr") (Rd.bl ?_))))))))⟩))⟩)
      with_reducible refine Rd.iteF (by walk_at "bF") (Rd.next (Rd.ret (Rd.cB (Rd.cons (Rd.var (by walk_at "vr") (Rd.nil ?_))))))
      refine ⟨_, _, rfl, (by walk_at "it"), (by walk_at "sz"), ?_⟩
      exact k
    · have a3 : Txt.startswith (Tx.nS i) "0" = false := Tf.nS_sw0 hp
      refine ⟨_, (pss_cons (ps_if (PW.pt (pw_or (pt_cmpR op_gt (pe_callB call_len_str (by rfl) T.n_len PySem.boot_len (pa_cons (pv 0) pa_nil)) (pv 1) (nomark _)) (pw_or1 (pt_not (PW.pt (pw_and (pt_val (pe_m0 PySem.F.slot_str_isascii PySem.F.type_str_isascii mt_isascii (pv 0))) (pw_and1 (pt_val (pe_m0 PySem.F.slot_str_isdigit PySem.F.type_str_isdigit mt_isdigit (pv 0)))))))))) (pss_one (ps_ret pe_non)) pss_nil)
      (pss_cons (ps_if (PW.pt (pw_and (pt_val (pe_m1 PySem.F.slot_str_startswith PySem.F.type_str_startswith mt_startswith (pv 0) pe_str)) (pw_and1 (pt_cmpR op_ne (pv 0) pe_str (nomark _))))) (pss_one (ps_ret pe_non)) pss_nil)
      (pss_one (ps_ret (pe_callTy call_int_str (by rfl) T.n_int (by decide +kernel) (pa_cons (pv 0) pa_nil)))))), ?_⟩
      try dsimp only [L2.cxOf, L2.Cx.nox, L2.Cx.wish]
      with_reducible refine Rd.seq (Rd.ifS (Rd.or (Rd.test (Rd.op (Rd.cB (Rd.cons (Rd.var (by walk_at "vr") (Rd.nil ?_))))))))
      refine ⟨_, rfl, (by walk_at "sz"), ?_⟩
      with_reducible refine Rd.var (by walk_at "vr") (Rd.i0 (Rd.bl (Rd.iteF (by walk_at "bF") (Rd.not (Rd.and (Rd.tb (Rd.m0 (Rd.var (by walk_at "vr") (⟨⟨_, rfl⟩, ⟨_, rfl, rfl, trivial, (Rd.bl (Rd.iteT (by walk_at "bT") ?_))⟩⟩)))))))))
      with_reducible refine Rd.tb (Rd.m0 (Rd.var (by walk_at "vr") (⟨⟨_, rfl⟩, ⟨_, rfl, rfl, trivial, (Rd.bl (Rd.iteF (by walk_at "bF") (Rd.next (Rd.seq (Rd.ifS (Rd.and (Rd.tb (Rd.m1 ?_))))))))⟩⟩)))
      with_reducible refine Rd.var (by walk_at "vr") (⟨⟨_, rfl⟩, (Rd.c (⟨_, _, rfl, rfl, (Rd.bl (Rd.iteF (by walk_at "bF") (Rd.iteF rfl (Rd.next (Rd.ret (Rd.cB (Rd.cons (Rd.var (by walk_at "vr") ?_))))))))⟩))⟩)
      with_reducible refine Rd.nil ?_
      refine ⟨_, _, rfl, (by walk_at "it"), (by walk_at "sz"), ?_⟩
      exact k
/-! Form.__init__ -/
theorem sc_Formu__initu_ : FnScope ["self", "slope", "base"] ["self", "slope", "base"] (defScope s_Formu__initu_) := ⟨rfl, rfl, rfl, by decide +kernel, rfl, by decide +kernel, by decide +kernel⟩
abbrev sp_Formu__initu_ (K : PySem.W.Frag) (A : Adr) : Sp := fun vs H Q _ => ∃ (p dx : Addr) (s b : Int), vs = [.ref p, .int s, .int b] ∧ H p = some (.ins A.c_Form dx []) ∧ Q .non (upd H p (.ins A.c_Form dx (fF s b)))
theorem ok_Formu__initu_ (T : Txt w K mg A) : FnOk P w K mg base CX0 2 A.f_Formu__initu_ A.d_Formu__initu_ ["self", "slope", "base"] (sp_Formu__initu_ K A) := by
  refine T.F_Formu__initu_.ok sc_Formu__initu_ (fun vs H Q E h => ?_) (fun cdv Ar outer s H vs Q E hr h => ?_)
  · obtain ⟨p, dx, s, b, rfl, hp, k⟩ := h
    rfl
  · obtain ⟨p, dx, s, b, rfl, hp, k⟩ := h
    have hu := hu_of hr
    have t_i_Form := T.i_Form
    have t_kt_Form_Form := T.kt_Form_Form
    have t_kt_int_Form := T.kt_int_Form
    have t_nf_Form_Form := T.nf_Form_Form
    have t_nf_int_Form := T.nf_int_Form
    have t_k_Form := T.k_Form
    refine ⟨_, (pss_cons (ps_if (PW.pt (pw_or (pt_not (pt_val (pe_call (ok_is_whole T) (hr.mono (by decide)) (by rfl) T.m_is_whole T.F_is_whole.kp T.b_is_whole .nil pass0 (pa_cons (pv 1) pa_nil)))) (pw_or1 (pt_not (pt_val (pe_call (ok_is_whole T) (hr.mono (by decide)) (by rfl) T.m_is_whole T.F_is_whole.kp T.b_is_whole .nil pass0 (pa_cons (pv 2) pa_nil))))))) (pss_one ps_never) pss_nil)
      (pss_cons (ps_fld (pv 0) (pv 1) rfl)
      (pss_one (ps_fld (pv 0) (pv 2) rfl)))), ?_⟩
    try dsimp only [L2.cxOf, L2.Cx.nox, L2.Cx.wish]
    with_reducible refine Rd.seq (Rd.ifS (Rd.or (Rd.not (Rd.tb (Rd.call (Rd.cons (Rd.var (by walk_at "vr") (Rd.nil ?_))))))))
    refine ⟨_, rfl, ?_⟩
    with_reducible refine Rd.bl (Rd.iteF (by walk_at "bF") (Rd.not (Rd.tb (Rd.call (Rd.cons (Rd.var (by walk_at "vr") (Rd.nil ?_)))))))
    refine ⟨_, rfl, ?_⟩
    with_reducible refine Rd.bl (Rd.iteF (by walk_at "bF") (Rd.next (Rd.seq (Rd.sfld (Rd.var (by walk_at "vr") (Rd.var (by walk_at "vr") (⟨_, _, _, _, rfl, (by walk_at "hp"), T.k_Form, T.n_Form_slope, (by walk_at "sfl"), (Rd.sfld (Rd.var (by walk_at "vr") (Rd.var (by walk_at "vr") (⟨_, _, _, _, rfl, (by walk_at "hp"), T.k_Form, T.n_Form_base, (by walk_at "sfl"), ?_⟩))))⟩)))))))
    rw [L2.upd_upd, fF_put]
    exact k
/-! as_form -/
theorem sc_as_form : FnScope ["thing"] ["thing"] (defScope s_as_form) := ⟨rfl, rfl, rfl, by decide +kernel, rfl, by decide +kernel, by decide +kernel⟩
abbrev sp_as_form (K : PySem.W.Frag) (A : Adr) : Sp := fun vs H Q _ => ∃ (y : V) (c d : Int), vs = [y] ∧ ArgF A H y c d ∧ ∀ (q dq : Addr) (H' : Hp), Same H H' → H' q = some (.ins A.c_Form dq (fF (c) (d))) → Q (.ref q) H'
theorem ok_as_form (T : Txt w K mg A) : FnOk P w K mg base CX0 4 A.f_as_form A.d_as_form ["thing"] (sp_as_form K A) := by
  refine T.F_as_form.ok sc_as_form (fun vs H Q E h => ?_) (fun cdv Ar outer s H vs Q E hr h => ?_)
  · obtain ⟨y, c, d, rfl, hy, k⟩ := h
    rfl
  · obtain ⟨y, c, d, rfl, hy, k⟩ := h
    have hu := hu_of hr
    have t_i_Form := T.i_Form
    have t_kt_Form_Form := T.kt_Form_Form
    have t_kt_int_Form := T.kt_int_Form
    have t_nf_Form_Form := T.nf_Form_Form
    have t_nf_int_Form := T.nf_int_Form
    have t_k_Form := T.k_Form
    rcases hy with ⟨q, dq, rfl, hq⟩ | ⟨rfl, rfl⟩
    · skip
      refine ⟨_, (pss_cons (ps_if (pt_val (pe_callB (Rd.isi (K := K) rfl) (by rfl) T.n_isinstance (by decide +kernel) (pa_cons (pv 0) (pa_cons (pe_glob (v := .ref A.c_Form) rfl T.m_Form rfl) pa_nil)))) (pss_one (ps_ret (pv 0))) pss_nil)
      (pss_one (ps_ret (pe_make T.K_Form (ok_Formu__initu_ T) (hr.mono (by decide)) (by rfl) T.m_Form T.b_Formu__initu_ .nil pass0 (pa_cons pe_int (pa_cons (pv 0) pa_nil)))))), ?_⟩
      try dsimp only [L2.cxOf, L2.Cx.nox, L2.Cx.wish]
      with_reducible refine Rd.seq (Rd.ifS (Rd.tb (Rd.cB (Rd.cons (Rd.var (by walk_at "vr") (Rd.cons (Rd.c (Rd.nil ?_))))))))
      refine ⟨_, _, _, _, _, rfl, (by walk_at "clsv"), (by walk_at "tyx"), (by walk_at "kit"), ?_⟩
      with_reducible refine Rd.bl (Rd.iteT (by first | with_unfolding_all rfl | walk_at "bT") (Rd.ret (Rd.var (by walk_at "vr") ?_)))
      exact k _ _ _ (Same.refl _) hq
    · skip
      refine ⟨_, (pss_cons (ps_if (pt_val (pe_callB (Rd.isi (K := K) rfl) (by rfl) T.n_isinstance (by decide +kernel) (pa_cons (pv 0) (pa_cons (pe_glob (v := .ref A.c_Form) rfl T.m_Form rfl) pa_nil)))) (pss_one (ps_ret (pv 0))) pss_nil)
      (pss_one (ps_ret (pe_make T.K_Form (ok_Formu__initu_ T) (hr.mono (by decide)) (by rfl) T.m_Form T.b_Formu__initu_ .nil pass0 (pa_cons pe_int (pa_cons (pv 0) pa_nil)))))), ?_⟩
      try dsimp only [L2.cxOf, L2.Cx.nox, L2.Cx.wish]
      with_reducible refine Rd.seq (Rd.ifS (Rd.tb (Rd.cB (Rd.cons (Rd.var (by walk_at "vr") (Rd.cons (Rd.c (Rd.nil ?_))))))))
      refine ⟨_, _, _, _, _, rfl, (by walk_at "clsv"), (by walk_at "tyx"), (by walk_at "kit"), ?_⟩
      with_reducible refine Rd.bl (Rd.iteF (by first | with_unfolding_all rfl | walk_at "bF") (Rd.next (Rd.ret (Rd.make (Rd.cons (Rd.c (Rd.cons (Rd.var (by walk_at "vr") (Rd.nil ?_)))))))))
      intro x1 dx1 nx1 ndx1 ne1
      refine ⟨_, _, _, _, rfl, L2.upd_same, ?_⟩
      refine ⟨rfl, ?_⟩
      rw [L2.upd_upd]
      exact k _ _ _ (by walk_at "frm") L2.upd_same
/-! Form.__add__ -/
theorem sc_Formu__addu_ : FnScope ["self", "other", "added"] ["self", "other"] (defScope s_Formu__addu_) := ⟨rfl, rfl, rfl, by decide +kernel, rfl, by decide +kernel, by decide +kernel⟩
abbrev sp_Formu__addu_ (K : PySem.W.Frag) (A : Adr) : Sp := fun vs H Q _ => ∃ (p dx : Addr) (s b : Int) (y : V) (c d : Int), vs = [.ref p, y] ∧ H p = some (.ins A.c_Form dx (fF s b)) ∧ ArgF A H y c d ∧ ∀ (q dq : Addr) (H' : Hp), Same H H' → H' q = some (.ins A.c_Form dq (fF (s + c) (b + d))) → Q (.ref q) H'
theorem ok_Formu__addu_ (T : Txt w K mg A) : FnOk P w K mg base CX0 5 A.f_Formu__addu_ A.d_Formu__addu_ ["self", "other"] (sp_Formu__addu_ K A) := by
  refine T.F_Formu__addu_.ok sc_Formu__addu_ (fun vs H Q E h => ?_) (fun cdv Ar outer s H vs Q E hr h => ?_)
  · obtain ⟨p, dx, s, b, y, c, d, rfl, hp, hy, k⟩ := h
    rfl
  · obtain ⟨p, dx, s, b, y, c, d, rfl, hp, hy, k⟩ := h
    have hu := hu_of hr
    have t_i_Form := T.i_Form
    have t_kt_Form_Form := T.kt_Form_Form
    have t_kt_int_Form := T.kt_int_Form
    have t_nf_Form_Form := T.nf_Form_Form
    have t_nf_int_Form := T.nf_int_Form
    have t_k_Form := T.k_Form
    refine ⟨_, (pss_cons (ps_set (i := 2) sc_Formu__addu_.nd rfl (Or.inl rfl) (pe_call (ok_as_form T) (hr.mono (by decide)) (by rfl) T.m_as_form T.F_as_form.kp T.b_as_form .nil pass0 (pa_cons (pv 1) pa_nil)))
      (pss_one (ps_ret (pe_make T.K_Form (ok_Formu__initu_ T) (hr.mono (by decide)) (by rfl) T.m_Form T.b_Formu__initu_ .nil pass0 (pa_cons (pe_op op_add (pe_fld (pv 0) rfl) (pe_fld (pv 2) rfl)) (pa_cons (pe_op op_add (pe_fld (pv 0) rfl) (pe_fld (pv 2) rfl)) pa_nil)))))), ?_⟩
    try dsimp only [L2.cxOf, L2.Cx.nox, L2.Cx.wish]
    with_reducible refine Rd.seq (Rd.asg (Rd.call (Rd.cons (Rd.var (by walk_at "vr") (Rd.nil ?_)))))
    refine ⟨_, _, _, rfl, (by walk_at "argf"), fun q1 dq1 H1 S1 r1 => ?_⟩
    with_reducible refine Rd.name (Rd.ret (Rd.make (Rd.cons (Rd.op (Rd.fld (Rd.var (by walk_at "vr") (⟨_, _, _, _, _, rfl, (by walk_at "hp"), T.k_Form, T.n_Form_slope, (by walk_at "lk"), (Rd.fld (Rd.var (by walk_at "vr") (⟨_, _, _, _, _, rfl, (by walk_at "hp"), T.k_Form, T.n_Form_slope, (by walk_at "lk"), (Rd.i0 ?_)⟩)))⟩)))))))
    with_reducible refine Rd.cons (Rd.op (Rd.fld (Rd.var (by walk_at "vr") (⟨_, _, _, _, _, rfl, (by walk_at "hp"), T.k_Form, T.n_Form_base, (by walk_at "lk"), (Rd.fld (Rd.var (by walk_at "vr") (⟨_, _, _, _, _, rfl, (by walk_at "hp"), T.k_Form, T.n_Form_base, (by walk_at "lk"), (Rd.i0 (Rd.nil ?_))⟩)))⟩))))
    intro x2 dx2 nx2 ndx2 ne2
    refine ⟨_, _, _, _, rfl, L2.upd_same, ?_⟩
    refine ⟨rfl, ?_⟩
    rw [L2.upd_upd]
    exact k _ _ _ (by walk_at "frm") L2.upd_same
/-! Form.__neg__ -/
theorem sc_Formu__negu_ : FnScope ["self"] ["self"] (defScope s_Formu__negu_) := ⟨rfl, rfl, rfl, by decide +kernel, rfl, by decide +kernel, by decide +kernel⟩
abbrev sp_Formu__negu_ (K : PySem.W.Frag) (A : Adr) : Sp := fun vs H Q _ => ∃ (p dx : Addr) (s b : Int), vs = [.ref p] ∧ H p = some (.ins A.c_Form dx (fF s b)) ∧ ∀ (q dq : Addr) (H' : Hp), Same H H' → H' q = some (.ins A.c_Form dq (fF (-s) (-b))) → Q (.ref q) H'
theorem ok_Formu__negu_ (T : Txt w K mg A) : FnOk P w K mg base CX0 4 A.f_Formu__negu_ A.d_Formu__negu_ ["self"] (sp_Formu__negu_ K A) := by
  refine T.F_Formu__negu_.ok sc_Formu__negu_ (fun vs H Q E h => ?_) (fun cdv Ar outer s H vs Q E hr h => ?_)
  · obtain ⟨p, dx, s, b, rfl, hp, k⟩ := h
    rfl
  · obtain ⟨p, dx, s, b, rfl, hp, k⟩ := h
    have hu := hu_of hr
    have t_i_Form := T.i_Form
    have t_kt_Form_Form := T.kt_Form_Form
    have t_kt_int_Form := T.kt_int_Form
    have t_nf_Form_Form := T.nf_Form_Form
    have t_nf_int_Form := T.nf_int_Form
    have t_k_Form := T.k_Form
    refine ⟨_, (pss_one (ps_ret (pe_make T.K_Form (ok_Formu__initu_ T) (hr.mono (by decide)) (by rfl) T.m_Form T.b_Formu__initu_ .nil pass0 (pa_cons (pe_un un_neg (pe_fld (pv 0) rfl)) (pa_cons (pe_un un_neg (pe_fld (pv 0) rfl)) pa_nil))))), ?_⟩
    try dsimp only [L2.cxOf, L2.Cx.nox, L2.Cx.wish]
    with_reducible refine Rd.ret (Rd.make (Rd.cons (Rd.un (Rd.fld (Rd.var (by walk_at "vr") (⟨_, _, _, _, _, rfl, (by walk_at "hp"), T.k_Form, T.n_Form_slope, (by walk_at "lk"), (Rd.iU (Rd.cons (Rd.un (Rd.fld (Rd.var (by walk_at "vr") ?_)))))⟩))))))
    with_reducible refine ⟨_, _, _, _, _, rfl, (by walk_at "hp"), T.k_Form, T.n_Form_base, (by walk_at "lk"), (Rd.iU (Rd.nil ?_))⟩
    intro x1 dx1 nx1 ndx1 ne1
    refine ⟨_, _, _, _, rfl, L2.upd_same, ?_⟩
    refine ⟨rfl, ?_⟩
    rw [L2.upd_upd]
    exact k _ _ _ (by walk_at "frm") L2.upd_same
/-! Form.__sub__ -/
theorem sc_Formu__subu_ : FnScope ["self", "other"] ["self", "other"] (defScope s_Formu__subu_) := ⟨rfl, rfl, rfl, by decide +kernel, rfl, by decide +kernel, by decide +kernel⟩
abbrev sp_Formu__subu_ (K : PySem.W.Frag) (A : Adr) : Sp := fun vs H Q _ => ∃ (p dx : Addr) (s b : Int) (y : V) (c d : Int), vs = [.ref p, y] ∧ H p = some (.ins A.c_Form dx (fF s b)) ∧ ArgF A H y c d ∧ ∀ (q dq : Addr) (H' : Hp), Same H H' → H' q = some (.ins A.c_Form dq (fF (s + -c) (b + -d))) → Q (.ref q) H'
theorem ok_Formu__subu_ (T : Txt w K mg A) : FnOk P w K mg base CX0 6 A.f_Formu__subu_ A.d_Formu__subu_ ["self", "other"] (sp_Formu__subu_ K A) := by
  refine T.F_Formu__subu_.ok sc_Formu__subu_ (fun vs H Q E h => ?_) (fun cdv Ar outer s H vs Q E hr h => ?_)
  · obtain ⟨p, dx, s, b, y, c, d, rfl, hp, hy, k⟩ := h
    rfl
  · obtain ⟨p, dx, s, b, y, c, d, rfl, hp, hy, k⟩ := h
    have hu := hu_of hr
    have t_i_Form := T.i_Form
    have t_kt_Form_Form := T.kt_Form_Form
    have t_kt_int_Form := T.kt_int_Form
    have t_nf_Form_Form := T.nf_Form_Form
    have t_nf_int_Form := T.nf_int_Form
    have t_k_Form := T.k_Form
    refine ⟨_, (pss_one (ps_ret (pe_op (Own.opS (op := .Add) (ok_Formu__addu_ T) (hr.mono (by decide)) T.O_Formu__addu__S T.b_Formu__addu_ pass0) (pv 0) (pe_un (Own.neg (ok_Formu__negu_ T) (hr.mono (by decide)) T.O_Formu__negu__1 T.b_Formu__negu_ pass0) (pe_call (ok_as_form T) (hr.mono (by decide)) (by rfl) T.m_as_form T.F_as_form.kp T.b_as_form .nil pass0 (pa_cons (pv 1) pa_nil)))))), ?_⟩
    try dsimp only [L2.cxOf, L2.Cx.nox, L2.Cx.wish]
    with_reducible refine Rd.ret (Rd.op (Rd.var (by walk_at "vr") (Rd.un (Rd.call (Rd.cons (Rd.var (by walk_at "vr") (Rd.nil ?_)))))))
    refine ⟨_, _, _, rfl, (by walk_at "argf"), fun q1 dq1 H1 S1 r1 => ?_⟩
    with_reducible refine Own.neg2 (by walk_at "hp") ?_
    refine ⟨_, _, _, _, rfl, (by walk_at "hp"), fun q2 dq2 H2 S2 r2 => ?_⟩
    with_reducible refine Own.opS2 (by walk_at "hp") (by walk_at "hp") ?_
    refine ⟨_, _, _, _, _, _, _, rfl, (by walk_at "hp"), (by walk_at "argf"), fun q3 dq3 H3 S3 r3 => ?_⟩
    exact k _ _ _ (by walk_at "frm") (by walk_at "hp")
/-! Form.__rsub__ -/
theorem sc_Formu__rsubu_ : FnScope ["self", "other"] ["self", "other"] (defScope s_Formu__rsubu_) := ⟨rfl, rfl, rfl, by decide +kernel, rfl, by decide +kernel, by decide +kernel⟩
abbrev sp_Formu__rsubu_ (K : PySem.W.Frag) (A : Adr) : Sp := fun vs H Q _ => ∃ (p dx : Addr) (s b d : Int), vs = [.ref p, .int d] ∧ H p = some (.ins A.c_Form dx (fF s b)) ∧ ∀ (q dq : Addr) (H' : Hp), Same H H' → H' q = some (.ins A.c_Form dq (fF (-s + 0) (-b + d))) → Q (.ref q) H'
theorem ok_Formu__rsubu_ (T : Txt w K mg A) : FnOk P w K mg base CX0 6 A.f_Formu__rsubu_ A.d_Formu__rsubu_ ["self", "other"] (sp_Formu__rsubu_ K A) := by
  refine T.F_Formu__rsubu_.ok sc_Formu__rsubu_ (fun vs H Q E h => ?_) (fun cdv Ar outer s H vs Q E hr h => ?_)
  · obtain ⟨p, dx, s, b, d, rfl, hp, k⟩ := h
    rfl
  · obtain ⟨p, dx, s, b, d, rfl, hp, k⟩ := h
    have hu := hu_of hr
    have t_i_Form := T.i_Form
    have t_kt_Form_Form := T.kt_Form_Form
    have t_kt_int_Form := T.kt_int_Form
    have t_nf_Form_Form := T.nf_Form_Form
    have t_nf_int_Form := T.nf_int_Form
    have t_k_Form := T.k_Form
    refine ⟨_, (pss_one (ps_ret (pe_op (Own.opT (op := .Add) (ok_Formu__addu_ T) (hr.mono (by decide)) T.O_Formu__addu__T T.b_Formu__addu_ pass0) (pe_un (Own.neg (ok_Formu__negu_ T) (hr.mono (by decide)) T.O_Formu__negu__1 T.b_Formu__negu_ pass0) (pv 0)) (pv 1)))), ?_⟩
    try dsimp only [L2.cxOf, L2.Cx.nox, L2.Cx.wish]
    with_reducible refine Rd.ret (Rd.op (Rd.un (Rd.var (by walk_at "vr") (Own.neg2 (by walk_at "hp") ?_))))
    refine ⟨_, _, _, _, rfl, (by walk_at "hp"), fun q1 dq1 H1 S1 r1 => ?_⟩
    with_reducible refine Rd.var (by walk_at "vr") (Own.opT2 (by walk_at "hp") (by walk_at "ty0") ?_)
    refine ⟨_, _, _, _, _, _, _, rfl, (by walk_at "hp"), (by walk_at "argf"), fun q2 dq2 H2 S2 r2 => ?_⟩
    exact k _ _ _ (by walk_at "frm") (by walk_at "hp")
/-! Form.__mul__ -/
theorem sc_Formu__mulu_ : FnScope ["self", "other"] ["self", "other"] (defScope s_Formu__mulu_) := ⟨rfl, rfl, rfl, by decide +kernel, rfl, by decide +kernel, by decide +kernel⟩
abbrev sp_Formu__mulu_ (K : PySem.W.Frag) (A : Adr) : Sp := fun vs H Q _ => ∃ (p dx : Addr) (s b d : Int), vs = [.ref p, .int d] ∧ H p = some (.ins A.c_Form dx (fF s b)) ∧ (-(2 ^ 190) < s ∧ s < 2 ^ 190) ∧ (-(2 ^ 190) < b ∧ b < 2 ^ 190) ∧ (-(2 ^ 190) < d ∧ d < 2 ^ 190) ∧ ∀ (q dq : Addr) (H' : Hp), Same H H' → H' q = some (.ins A.c_Form dq (fF (s * d) (b * d))) → Q (.ref q) H'
theorem ok_Formu__mulu_ (T : Txt w K mg A) : FnOk P w K mg base CX0 4 A.f_Formu__mulu_ A.d_Formu__mulu_ ["self", "other"] (sp_Formu__mulu_ K A) := by
  refine T.F_Formu__mulu_.ok sc_Formu__mulu_ (fun vs H Q E h => ?_) (fun cdv Ar outer s H vs Q E hr h => ?_)
  · obtain ⟨p, dx, s, b, d, rfl, hp, hs, hb, hd, k⟩ := h
    rfl
  · obtain ⟨p, dx, s, b, d, rfl, hp, hs, hb, hd, k⟩ := h
    have hu := hu_of hr
    have t_i_Form := T.i_Form
    have t_kt_Form_Form := T.kt_Form_Form
    have t_kt_int_Form := T.kt_int_Form
    have t_nf_Form_Form := T.nf_Form_Form
    have t_nf_int_Form := T.nf_int_Form
    have t_k_Form := T.k_Form
    refine ⟨_, (pss_cons (ps_if (pt_not (pt_val (pe_call (ok_is_whole T) (hr.mono (by decide)) (by rfl) T.m_is_whole T.F_is_whole.kp T.b_is_whole .nil pass0 (pa_cons (pv 1) pa_nil)))) (pss_one ps_never) pss_nil)
      (pss_one (ps_ret (pe_make T.K_Form (ok_Formu__initu_ T) (hr.mono (by decide)) (by rfl) T.m_Form T.b_Formu__initu_ .nil pass0 (pa_cons (pe_op op_mulW (pe_fld (pv 0) rfl) (pv 1)) (pa_cons (pe_op op_mulW (pe_fld (pv 0) rfl) (pv 1)) pa_nil)))))), ?_⟩
    try dsimp only [L2.cxOf, L2.Cx.nox, L2.Cx.wish]
    with_reducible refine Rd.seq (Rd.ifS (Rd.not (Rd.tb (Rd.call (Rd.cons (Rd.var (by walk_at "vr") (Rd.nil ?_)))))))
    refine ⟨_, rfl, ?_⟩
    with_reducible refine Rd.bl (Rd.iteF (by walk_at "bF") (Rd.next (Rd.ret (Rd.make (Rd.cons (Rd.op (Rd.fld (Rd.var (by walk_at "vr") (⟨_, _, _, _, _, rfl, (by walk_at "hp"), T.k_Form, T.n_Form_slope, (by walk_at "lk"), (Rd.var (by walk_at "vr") (Rd.iC (by walk_at "scm") ?_))⟩)))))))))
    with_reducible refine Rd.cons (Rd.op (Rd.fld (Rd.var (by walk_at "vr") (⟨_, _, _, _, _, rfl, (by walk_at "hp"), T.k_Form, T.n_Form_base, (by walk_at "lk"), (Rd.var (by walk_at "vr") (Rd.iC (by walk_at "scm") (Rd.nil ?_)))⟩))))
    intro x2 dx2 nx2 ndx2 ne2
    refine ⟨_, _, _, _, rfl, L2.upd_same, ?_⟩
    refine ⟨rfl, ?_⟩
    rw [L2.upd_upd]
    exact k _ _ _ (by walk_at "frm") L2.upd_same
/-! Form.__rmul__ -/
theorem sc_Formu__rmulu_ : FnScope ["self", "other"] ["self", "other"] (defScope s_Formu__rmulu_) := ⟨rfl, rfl, rfl, by decide +kernel, rfl, by decide +kernel, by decide +kernel⟩
abbrev sp_Formu__rmulu_ (K : PySem.W.Frag) (A : Adr) : Sp := fun vs H Q _ => ∃ (p dx : Addr) (s b d : Int), vs = [.ref p, .int d] ∧ H p = some (.ins A.c_Form dx (fF s b)) ∧ (-(2 ^ 190) < s ∧ s < 2 ^ 190) ∧ (-(2 ^ 190) < b ∧ b < 2 ^ 190) ∧ (-(2 ^ 190) < d ∧ d < 2 ^ 190) ∧ ∀ (q dq : Addr) (H' : Hp), Same H H' → H' q = some (.ins A.c_Form dq (fF (s * d) (b * d))) → Q (.ref q) H'
theorem ok_Formu__rmulu_ (T : Txt w K mg A) : FnOk P w K mg base CX0 5 A.f_Formu__rmulu_ A.d_Formu__rmulu_ ["self", "other"] (sp_Formu__rmulu_ K A) := by
  refine T.F_Formu__rmulu_.ok sc_Formu__rmulu_ (fun vs H Q E h => ?_) (fun cdv Ar outer s H vs Q E hr h => ?_)
  · obtain ⟨p, dx, s, b, d, rfl, hp, hs, hb, hd, k⟩ := h
    rfl
  · obtain ⟨p, dx, s, b, d, rfl, hp, hs, hb, hd, k⟩ := h
    have hu := hu_of hr
    have t_i_Form := T.i_Form
    have t_kt_Form_Form := T.kt_Form_Form
    have t_kt_int_Form := T.kt_int_Form
    have t_nf_Form_Form := T.nf_Form_Form
    have t_nf_int_Form := T.nf_int_Form
    have t_k_Form := T.k_Form
    refine ⟨_, (pss_one (ps_ret (pe_op (Own.opT (op := .Mult) (ok_Formu__mulu_ T) (hr.mono (by decide)) T.O_Formu__mulu__T T.b_Formu__mulu_ pass0) (pv 0) (pv 1)))), ?_⟩
    try dsimp only [L2.cxOf, L2.Cx.nox, L2.Cx.wish]
    with_reducible refine Rd.ret (Rd.op (Rd.var (by walk_at "vr") (Rd.var (by walk_at "vr") (Own.opT2 (by walk_at "hp") (by walk_at "ty0") ?_))))
    refine ⟨_, _, _, _, _, rfl, (by walk_at "hp"), (by walk_at "sc"), (by walk_at "sc"), (by walk_at "sc"), fun q1 dq1 H1 S1 r1 => ?_⟩
    exact k _ _ _ (by walk_at "frm") (by walk_at "hp")
/-! Form.__eq__ -/
theorem sc_Formu__equ_ : FnScope ["self", "other"] ["self", "other"] (defScope s_Formu__equ_) := ⟨rfl, rfl, rfl, by decide +kernel, rfl, by decide +kernel, by decide +kernel⟩
abbrev sp_Formu__equ_ (K : PySem.W.Frag) (A : Adr) : Sp := fun vs H Q _ => ∃ (p dx : Addr) (s b : Int) (y : V), vs = [.ref p, y] ∧ H p = some (.ins A.c_Form dx (fF s b)) ∧ ((∃ (q dq : Addr) (c d : Int), y = .ref q ∧ H q = some (.ins A.c_Form dq (fF c d)) ∧ Q (.bl (decide (V.int s = .int c) && decide (V.int b = .int d))) H) ∨ (∃ i : Int, y = .int i ∧ Q (.bl false) H))
theorem ok_Formu__equ_ (T : Txt w K mg A) : FnOk P w K mg base CX0 1 A.f_Formu__equ_ A.d_Formu__equ_ ["self", "other"] (sp_Formu__equ_ K A) := by
  refine T.F_Formu__equ_.ok sc_Formu__equ_ (fun vs H Q E h => ?_) (fun cdv Ar outer s H vs Q E hr h => ?_)
  · obtain ⟨p, dx, s, b, y, rfl, hp, hy⟩ := h
    rfl
  · obtain ⟨p, dx, s, b, y, rfl, hp, hy⟩ := h
    have hu := hu_of hr
    have t_i_Form := T.i_Form
    have t_kt_Form_Form := T.kt_Form_Form
    have t_kt_int_Form := T.kt_int_Form
    have t_nf_Form_Form := T.nf_Form_Form
    have t_nf_int_Form := T.nf_int_Form
    have t_k_Form := T.k_Form
    rcases hy with ⟨q, dq, c, d, rfl, hq, k⟩ | ⟨i, rfl, k⟩
    · skip
      refine ⟨_, (pss_one (ps_ret (pe_and (pe_callB (Rd.isi (K := K) rfl) (by rfl) T.n_isinstance (by decide +kernel) (pa_cons (pv 1) (pa_cons (pe_glob (v := .ref A.c_Form) rfl T.m_Form rfl) pa_nil))) (pe_and (pe_cmpR op_eq (pe_fld (pv 0) rfl) (pe_fld (pv 1) rfl) (nomark _)) (pe_one (pe_cmpR op_eq (pe_fld (pv 0) rfl) (pe_fld (pv 1) rfl) (nomark _))))))), ?_⟩
      try dsimp only [L2.cxOf, L2.Cx.nox, L2.Cx.wish]
      with_reducible refine Rd.ret (Rd.andV (Rd.cB (Rd.cons (Rd.var (by walk_at "vr") (Rd.cons (Rd.c (Rd.nil ?_)))))))
      refine ⟨_, _, _, _, _, rfl, (by walk_at "clsv"), (by walk_at "tyx"), (by walk_at "kit"), ?_⟩
      with_reducible refine Rd.bl (Rd.iteT (by walk_at "bT") (Rd.andV (Rd.op (Rd.fld (Rd.var (by walk_at "vr") (⟨_, _, _, _, _, rfl, (by walk_at "hp"), T.k_Form, T.n_Form_slope, (by walk_at "lk"), (Rd.fld (Rd.var (by walk_at "vr") (⟨_, _, _, _, _, rfl, (by walk_at "hp"), T.k_Form, T.n_Form_slope, (by walk_at "lk"), (Rd.eqS (by walk_at "vr") (Rd.bl ?_))⟩)))⟩))))))
      refine' Rd.andB (d := _) (fun Q1 hq1 => ?pa1) ?pb1
      case pa1 =>
        with_reducible refine Rd.op (Rd.fld (Rd.var (by walk_at "vr") (⟨_, _, _, _, _, rfl, (by walk_at "hp"), T.k_Form, T.n_Form_base, (by walk_at "lk"), (Rd.fld (Rd.var (by walk_at "vr") (⟨_, _, _, _, _, rfl, (by walk_at "hp"), T.k_Form, T.n_Form_base, (by walk_at "lk"), (Rd.eqS (by walk_at "vr") ?_)⟩)))⟩)))
        exact hq1
      rotate_left 0
      exact k
    · skip
      refine ⟨_, (pss_one (ps_ret (pe_and (pe_callB (Rd.isi (K := K) rfl) (by rfl) T.n_isinstance (by decide +kernel) (pa_cons (pv 1) (pa_cons (pe_glob (v := .ref A.c_Form) rfl T.m_Form rfl) pa_nil))) (pe_and (pe_cmpR op_eq (pe_fld (pv 0) rfl) (pe_fld (pv 1) rfl) (nomark _)) (pe_one (pe_cmpR op_eq (pe_fld (pv 0) rfl) (pe_fld (pv 1) rfl) (nomark _))))))), ?_⟩
      try dsimp only [L2.cxOf, L2.Cx.nox, L2.Cx.wish]
      with_reducible refine Rd.ret (Rd.andV (Rd.cB (Rd.cons (Rd.var (by walk_at "vr") (Rd.cons (Rd.c (Rd.nil ?_)))))))
      refine ⟨_, _, _, _, _, rfl, (by walk_at "clsv"), (by walk_at "tyx"), (by walk_at "kit"), ?_⟩
      with_reducible refine Rd.bl (Rd.iteF (by walk_at "bF") ?_)
      exact k
/-! place_of -/
theorem sc_place_of : FnScope ["thing"] ["thing"] (defScope s_place_of) := ⟨rfl, rfl, rfl, by decide +kernel, rfl, by decide +kernel, by decide +kernel⟩
abbrev sp_place_of (K : PySem.W.Frag) (A : Adr) : Sp := fun vs H Q _ => ∃ (p dx : Addr) (s b : Int), vs = [.ref p] ∧ H p = some (.ins A.c_Form dx (fF s b)) ∧ ∀ q, H q = none → Q (.ref q) (upd H q (.tup [.int s, .int b]))
theorem ok_place_of (T : Txt w K mg A) : FnOk P w K mg base CX0 1 A.f_place_of A.d_place_of ["thing"] (sp_place_of K A) := by
  refine T.F_place_of.ok sc_place_of (fun vs H Q E h => ?_) (fun cdv Ar outer s H vs Q E hr h => ?_)
  · obtain ⟨p, dx, s, b, rfl, hp, k⟩ := h
    rfl
  · obtain ⟨p, dx, s, b, rfl, hp, k⟩ := h
    have hu := hu_of hr
    have t_i_Form := T.i_Form
    have t_kt_Form_Form := T.kt_Form_Form
    have t_kt_int_Form := T.kt_int_Form
    have t_nf_Form_Form := T.nf_Form_Form
    have t_nf_int_Form := T.nf_int_Form
    have t_k_Form := T.k_Form
    refine ⟨_, (pss_cons (ps_if (pt_not (pt_val (pe_callB (Rd.isi (K := K) rfl) (by rfl) T.n_isinstance (by decide +kernel) (pa_cons (pv 0) (pa_cons (pe_glob (v := .ref A.c_Form) rfl T.m_Form rfl) pa_nil))))) (pss_one ps_never) pss_nil)
      (pss_one (ps_ret (pe_tup (pa_cons (pe_fld (pv 0) rfl) (pa_cons (pe_fld (pv 0) rfl) pa_nil)))))), ?_⟩
    try dsimp only [L2.cxOf, L2.Cx.nox, L2.Cx.wish]
    with_reducible refine Rd.seq (Rd.ifS (Rd.not (Rd.tb (Rd.cB (Rd.cons (Rd.var (by walk_at "vr") (Rd.cons (Rd.c (Rd.nil ?_)))))))))
    refine ⟨_, _, _, _, _, rfl, (by walk_at "clsv"), (by walk_at "tyx"), (by walk_at "kit"), ?_⟩
    with_reducible refine Rd.bl (Rd.iteF (by first | with_unfolding_all rfl | walk_at "bF") (Rd.next (Rd.ret (Rd.tup (Rd.cons (Rd.fld (Rd.var (by walk_at "vr") (⟨_, _, _, _, _, rfl, (by walk_at "hp"), T.k_Form, T.n_Form_slope, (by walk_at "lk"), (Rd.cons (Rd.fld (Rd.var (by walk_at "vr") ?_)))⟩))))))))
    with_reducible refine ⟨_, _, _, _, _, rfl, (by walk_at "hp"), T.k_Form, T.n_Form_base, (by walk_at "lk"), (Rd.nil (Rd.laid (by walk_at "ll") ?_))⟩
    intro p0 np0
    exact k _ np0
/-! Form.__lt__ -/
theorem sc_Formu__ltu_ : FnScope ["self", "other"] ["self", "other"] (defScope s_Formu__ltu_) := ⟨rfl, rfl, rfl, by decide +kernel, rfl, by decide +kernel, by decide +kernel⟩
abbrev sp_Formu__ltu_ (K : PySem.W.Frag) (A : Adr) : Sp := fun vs H Q _ => ∃ (p dx q dq : Addr) (s b c d : Int), vs = [.ref p, .ref q] ∧ H p = some (.ins A.c_Form dx (fF s b)) ∧ H q = some (.ins A.c_Form dq (fF c d)) ∧ ∀ H', Same H H' → Q (.bl (decide (s < c ∨ s = c ∧ b < d))) H'
theorem ok_Formu__ltu_ (T : Txt w K mg A) : FnOk P w K mg base CX0 2 A.f_Formu__ltu_ A.d_Formu__ltu_ ["self", "other"] (sp_Formu__ltu_ K A) := by
  refine T.F_Formu__ltu_.ok sc_Formu__ltu_ (fun vs H Q E h => ?_) (fun cdv Ar outer s H vs Q E hr h => ?_)
  · obtain ⟨p, dx, q, dq, s, b, c, d, rfl, hp, hq, k⟩ := h
    rfl
  · obtain ⟨p, dx, q, dq, s, b, c, d, rfl, hp, hq, k⟩ := h
    have hu := hu_of hr
    have t_i_Form := T.i_Form
    have t_kt_Form_Form := T.kt_Form_Form
    have t_kt_int_Form := T.kt_int_Form
    have t_nf_Form_Form := T.nf_Form_Form
    have t_nf_int_Form := T.nf_int_Form
    have t_k_Form := T.k_Form
    refine ⟨_, (pss_one (ps_ret (pe_cmpR (Rd.opPrLt hr.units0) (pe_call (ok_place_of T) (hr.mono (by decide)) (by rfl) T.m_place_of T.F_place_of.kp T.b_place_of .nil pass0 (pa_cons (pv 0) pa_nil)) (pe_call (ok_place_of T) (hr.mono (by decide)) (by rfl) T.m_place_of T.F_place_of.kp T.b_place_of .nil pass0 (pa_cons (pv 1) pa_nil)) (nomark _)))), ?_⟩
    try dsimp only [L2.cxOf, L2.Cx.nox, L2.Cx.wish]
    with_reducible refine Rd.ret (Rd.op (Rd.call (Rd.cons (Rd.var (by walk_at "vr") (Rd.nil ?_)))))
    refine ⟨_, _, _, _, rfl, (by walk_at "hp"), fun q1 nq1 => ?_⟩
    with_reducible refine Rd.call (Rd.cons (Rd.var (by walk_at "vr") (Rd.nil ?_)))
    refine ⟨_, _, _, _, rfl, (by walk_at "hp"), fun q2 nq2 => ?_⟩
    with_reducible refine Rd.prLt (by walk_at "hpt") (by walk_at "hpt") ?_
    exact k _ (by walk_at "frm")
/-! Form.__le__ -/
theorem sc_Formu__leu_ : FnScope ["self", "other"] ["self", "other"] (defScope s_Formu__leu_) := ⟨rfl, rfl, rfl, by decide +kernel, rfl, by decide +kernel, by decide +kernel⟩
abbrev sp_Formu__leu_ (K : PySem.W.Frag) (A : Adr) : Sp := fun vs H Q _ => ∃ (p dx q dq : Addr) (s b c d : Int), vs = [.ref p, .ref q] ∧ H p = some (.ins A.c_Form dx (fF s b)) ∧ H q = some (.ins A.c_Form dq (fF c d)) ∧ ∀ H', Same H H' → Q (.bl (decide (s < c ∨ s = c ∧ b ≤ d))) H'
theorem ok_Formu__leu_ (T : Txt w K mg A) : FnOk P w K mg base CX0 2 A.f_Formu__leu_ A.d_Formu__leu_ ["self", "other"] (sp_Formu__leu_ K A) := by
  refine T.F_Formu__leu_.ok sc_Formu__leu_ (fun vs H Q E h => ?_) (fun cdv Ar outer s H vs Q E hr h => ?_)
  · obtain ⟨p, dx, q, dq, s, b, c, d, rfl, hp, hq, k⟩ := h
    rfl
  · obtain ⟨p, dx, q, dq, s, b, c, d, rfl, hp, hq, k⟩ := h
    have hu := hu_of hr
    have t_i_Form := T.i_Form
    have t_kt_Form_Form := T.kt_Form_Form
    have t_kt_int_Form := T.kt_int_Form
    have t_nf_Form_Form := T.nf_Form_Form
    have t_nf_int_Form := T.nf_int_Form
    have t_k_Form := T.k_Form
    refine ⟨_, (pss_one (ps_ret (pe_cmpR (Rd.opPrLe hr.units0) (pe_call (ok_place_of T) (hr.mono (by decide)) (by rfl) T.m_place_of T.F_place_of.kp T.b_place_of .nil pass0 (pa_cons (pv 0) pa_nil)) (pe_call (ok_place_of T) (hr.mono (by decide)) (by rfl) T.m_place_of T.F_place_of.kp T.b_place_of .nil pass0 (pa_cons (pv 1) pa_nil)) (nomark _)))), ?_⟩
    try dsimp only [L2.cxOf, L2.Cx.nox, L2.Cx.wish]
    with_reducible refine Rd.ret (Rd.op (Rd.call (Rd.cons (Rd.var (by walk_at "vr") (Rd.nil ?_)))))
    refine ⟨_, _, _, _, rfl, (by walk_at "hp"), fun q1 nq1 => ?_⟩
    with_reducible refine Rd.call (Rd.cons (Rd.var (by walk_at "vr") (Rd.nil ?_)))
    refine ⟨_, _, _, _, rfl, (by walk_at "hp"), fun q2 nq2 => ?_⟩
    with_reducible refine Rd.prLe (by walk_at "hpt") (by walk_at "hpt") ?_
    exact k _ (by walk_at "frm")
/-! Form.__gt__ -/
theorem sc_Formu__gtu_ : FnScope ["self", "other"] ["self", "other"] (defScope s_Formu__gtu_) := ⟨rfl, rfl, rfl, by decide +kernel, rfl, by decide +kernel, by decide +kernel⟩
abbrev sp_Formu__gtu_ (K : PySem.W.Frag) (A : Adr) : Sp := fun vs H Q _ => ∃ (p dx q dq : Addr) (s b c d : Int), vs = [.ref p, .ref q] ∧ H p = some (.ins A.c_Form dx (fF s b)) ∧ H q = some (.ins A.c_Form dq (fF c d)) ∧ ∀ H', Same H H' → Q (.bl (decide (c < s ∨ s = c ∧ d < b))) H'
theorem ok_Formu__gtu_ (T : Txt w K mg A) : FnOk P w K mg base CX0 2 A.f_Formu__gtu_ A.d_Formu__gtu_ ["self", "other"] (sp_Formu__gtu_ K A) := by
  refine T.F_Formu__gtu_.ok sc_Formu__gtu_ (fun vs H Q E h => ?_) (fun cdv Ar outer s H vs Q E hr h => ?_)
  · obtain ⟨p, dx, q, dq, s, b, c, d, rfl, hp, hq, k⟩ := h
    rfl
  · obtain ⟨p, dx, q, dq, s, b, c, d, rfl, hp, hq, k⟩ := h
    have hu := hu_of hr
    have t_i_Form := T.i_Form
    have t_kt_Form_Form := T.kt_Form_Form
    have t_kt_int_Form := T.kt_int_Form
    have t_nf_Form_Form := T.nf_Form_Form
    have t_nf_int_Form := T.nf_int_Form
    have t_k_Form := T.k_Form
    refine ⟨_, (pss_one (ps_ret (pe_cmpR (Rd.opPrGt hr.units0) (pe_call (ok_place_of T) (hr.mono (by decide)) (by rfl) T.m_place_of T.F_place_of.kp T.b_place_of .nil pass0 (pa_cons (pv 0) pa_nil)) (pe_call (ok_place_of T) (hr.mono (by decide)) (by rfl) T.m_place_of T.F_place_of.kp T.b_place_of .nil pass0 (pa_cons (pv 1) pa_nil)) (nomark _)))), ?_⟩
    try dsimp only [L2.cxOf, L2.Cx.nox, L2.Cx.wish]
    with_reducible refine Rd.ret (Rd.op (Rd.call (Rd.cons (Rd.var (by walk_at "vr") (Rd.nil ?_)))))
    refine ⟨_, _, _, _, rfl, (by walk_at "hp"), fun q1 nq1 => ?_⟩
    with_reducible refine Rd.call (Rd.cons (Rd.var (by walk_at "vr") (Rd.nil ?_)))
    refine ⟨_, _, _, _, rfl, (by walk_at "hp"), fun q2 nq2 => ?_⟩
    with_reducible refine Rd.prGt (by walk_at "hpt") (by walk_at "hpt") ?_
    exact k _ (by walk_at "frm")
/-! Form.__ge__ -/
theorem sc_Formu__geu_ : FnScope ["self", "other"] ["self", "other"] (defScope s_Formu__geu_) := ⟨rfl, rfl, rfl, by decide +kernel, rfl, by decide +kernel, by decide +kernel⟩
abbrev sp_Formu__geu_ (K : PySem.W.Frag) (A : Adr) : Sp := fun vs H Q _ => ∃ (p dx q dq : Addr) (s b c d : Int), vs = [.ref p, .ref q] ∧ H p = some (.ins A.c_Form dx (fF s b)) ∧ H q = some (.ins A.c_Form dq (fF c d)) ∧ ∀ H', Same H H' → Q (.bl (decide (c < s ∨ s = c ∧ d ≤ b))) H'
theorem ok_Formu__geu_ (T : Txt w K mg A) : FnOk P w K mg base CX0 2 A.f_Formu__geu_ A.d_Formu__geu_ ["self", "other"] (sp_Formu__geu_ K A) := by
  refine T.F_Formu__geu_.ok sc_Formu__geu_ (fun vs H Q E h => ?_) (fun cdv Ar outer s H vs Q E hr h => ?_)
  · obtain ⟨p, dx, q, dq, s, b, c, d, rfl, hp, hq, k⟩ := h
    rfl
  · obtain ⟨p, dx, q, dq, s, b, c, d, rfl, hp, hq, k⟩ := h
    have hu := hu_of hr
    have t_i_Form := T.i_Form
    have t_kt_Form_Form := T.kt_Form_Form
    have t_kt_int_Form := T.kt_int_Form
    have t_nf_Form_Form := T.nf_Form_Form
    have t_nf_int_Form := T.nf_int_Form
    have t_k_Form := T.k_Form
    refine ⟨_, (pss_one (ps_ret (pe_cmpR (Rd.opPrGe hr.units0) (pe_call (ok_place_of T) (hr.mono (by decide)) (by rfl) T.m_place_of T.F_place_of.kp T.b_place_of .nil pass0 (pa_cons (pv 0) pa_nil)) (pe_call (ok_place_of T) (hr.mono (by decide)) (by rfl) T.m_place_of T.F_place_of.kp T.b_place_of .nil pass0 (pa_cons (pv 1) pa_nil)) (nomark _)))), ?_⟩
    try dsimp only [L2.cxOf, L2.Cx.nox, L2.Cx.wish]
    with_reducible refine Rd.ret (Rd.op (Rd.call (Rd.cons (Rd.var (by walk_at "vr") (Rd.nil ?_)))))
    refine ⟨_, _, _, _, rfl, (by walk_at "hp"), fun q1 nq1 => ?_⟩
    with_reducible refine Rd.call (Rd.cons (Rd.var (by walk_at "vr") (Rd.nil ?_)))
    refine ⟨_, _, _, _, rfl, (by walk_at "hp"), fun q2 nq2 => ?_⟩
    with_reducible refine Rd.prGe (by walk_at "hpt") (by walk_at "hpt") ?_
    exact k _ (by walk_at "frm")
/-! read_signed -/
theorem sc_read_signed : FnScope ["word", "number"] ["word"] (defScope s_read_signed) := ⟨rfl, rfl, rfl, by decide +kernel, rfl, by decide +kernel, by decide +kernel⟩
abbrev sp_read_signed (K : PySem.W.Frag) (A : Adr) : Sp := fun vs H Q _ => ∃ i : Int, vs = [.str (Tx.nS i)] ∧ (-10000000000000000000000000000000000000000 < i ∧ i < 10000000000000000000000000000000000000000) ∧ Q (.int i) H
theorem ok_read_signed (T : Txt w K mg A) : FnOk P w K mg base CX0 2 A.f_read_signed A.d_read_signed ["word"] (sp_read_signed K A) := by
  refine T.F_read_signed.ok sc_read_signed (fun vs H Q E h => ?_) (fun cdv Ar outer s H vs Q E hr h => ?_)
  · obtain ⟨i, rfl, hb, k⟩ := h
    rfl
  · obtain ⟨i, rfl, hb, k⟩ := h
    have hu := hu_of hr
    have t_i_Form := T.i_Form
    have t_kt_Form_Form := T.kt_Form_Form
    have t_kt_int_Form := T.kt_int_Form
    have t_nf_Form_Form := T.nf_Form_Form
    have t_nf_int_Form := T.nf_int_Form
    have t_k_Form := T.k_Form
    have l1 : (Tx.nS i).length ≤ 70 := Tf.nS_lenB (by omega)
    rcases (by omega : 0 ≤ i ∨ i < 0) with hp | hp
    · have a3 : (!Txt.startswith (Tx.nS i) "-") = true := by rw [Tf.nS_swm hp]; rfl
      refine ⟨_, (pss_cons (ps_if (pt_not (pt_val (pe_m1 PySem.F.slot_str_startswith PySem.F.type_str_startswith mt_startswith (pv 0) pe_str))) (pss_one (ps_ret (pe_call (ok_read_number T) (hr.mono (by decide)) (by rfl) T.m_read_number T.F_read_number.kp T.b_read_number .nil pass0 (pa_cons (pv 0) (pa_cons (pe_glob (v := .int (40)) rfl T.m_MOST_DIGITS ⟨_, rfl⟩) pa_nil))))) pss_nil)
      (pss_cons (ps_set (i := 1) sc_read_signed.nd rfl (Or.inl rfl) (pe_call (ok_read_number T) (hr.mono (by decide)) (by rfl) T.m_read_number T.F_read_number.kp T.b_read_number .nil pass0 (pa_cons (pe_m1 PySem.F.slot_str_removeprefix PySem.F.type_str_removeprefix mt_removeprefix (pv 0) pe_str) (pa_cons (pe_glob (v := .int (40)) rfl T.m_MOST_DIGITS ⟨_, rfl⟩) pa_nil))))
      (pss_cons (ps_if (pt_cmpR op_isN (pv 1) pe_non (nomark _)) (pss_one (ps_ret pe_non)) pss_nil)
      (pss_one (ps_ret (pe_un un_neg (pv 1))))))), ?_⟩
      try dsimp only [L2.cxOf, L2.Cx.nox, L2.Cx.wish]
      with_reducible refine Rd.seq (Rd.ifS (Rd.not (Rd.tb (Rd.m1 (Rd.var (by walk_at "vr") (⟨⟨_, rfl⟩, (Rd.c (⟨_, _, rfl, rfl, (Rd.bl (Rd.iteT (by walk_at "bT") (Rd.ret ?_)))⟩))⟩))))))
      with_reducible refine Rd.call (Rd.cons (Rd.var (by walk_at "vr") (Rd.cons (Rd.c (Rd.nil ?_)))))
      refine ⟨_, rfl, (by walk_at "sc"), (by walk_at "sc"), ?_⟩
      exact k
    · have a3 : (!Txt.startswith (Tx.nS i) "-") = false := by rw [Tf.nS_swn hp]; rfl
      refine ⟨_, (pss_cons (ps_if (pt_not (pt_val (pe_m1 PySem.F.slot_str_startswith PySem.F.type_str_startswith mt_startswith (pv 0) pe_str))) (pss_one (ps_ret (pe_call (ok_read_number T) (hr.mono (by decide)) (by rfl) T.m_read_number T.F_read_number.kp T.b_read_number .nil pass0 (pa_cons (pv 0) (pa_cons (pe_glob (v := .int (40)) rfl T.m_MOST_DIGITS ⟨_, rfl⟩) pa_nil))))) pss_nil)
      (pss_cons (ps_set (i := 1) sc_read_signed.nd rfl (Or.inl rfl) (pe_call (ok_read_number T) (hr.mono (by decide)) (by rfl) T.m_read_number T.F_read_number.kp T.b_read_number .nil pass0 (pa_cons (pe_m1 PySem.F.slot_str_removeprefix PySem.F.type_str_removeprefix mt_removeprefix (pv 0) pe_str) (pa_cons (pe_glob (v := .int (40)) rfl T.m_MOST_DIGITS ⟨_, rfl⟩) pa_nil))))
      (pss_cons (ps_if (pt_cmpR op_isN (pv 1) pe_non (nomark _)) (pss_one (ps_ret pe_non)) pss_nil)
      (pss_one (ps_ret (pe_un un_neg (pv 1))))))), ?_⟩
      try dsimp only [L2.cxOf, L2.Cx.nox, L2.Cx.wish]
      with_reducible refine Rd.seq (Rd.ifS (Rd.not (Rd.tb (Rd.m1 (Rd.var (by walk_at "vr") (⟨⟨_, rfl⟩, (Rd.c (⟨_, _, rfl, rfl, (Rd.bl (Rd.iteF (by walk_at "bF") (Rd.next ?_)))⟩))⟩))))))
      with_reducible refine Rd.seq (Rd.asg (Rd.call (Rd.cons (Rd.m1 (Rd.var (by walk_at "vr") (⟨⟨_, rfl⟩, (Rd.c ?_)⟩))))))
      refine ⟨_, _, rfl, rfl, (by walk_at "sz"), ?_⟩
      rw [Tf.nS_rpm hp]
      with_reducible refine Rd.cons (Rd.c (Rd.nil ?_))
      refine ⟨_, rfl, (by walk_at "sc"), (by walk_at "sc"), ?_⟩
      with_reducible refine Rd.name (Rd.seq (Rd.ifS (Rd.test (Rd.op (Rd.var (by walk_at "vr") (Rd.c (⟨rfl, (Rd.bl (Rd.iteF (by first | with_unfolding_all rfl | walk_at "bF") (Rd.next (Rd.ret ?_))))⟩)))))))
      with_reducible refine Rd.un (Rd.var (by walk_at "vr") (Rd.iU ?_))
      rw [Int.neg_neg]
      exact k
/-! read_slope -/
theorem sc_read_slope : FnScope ["word"] ["word"] (defScope s_read_slope) := ⟨rfl, rfl, rfl, by decide +kernel, rfl, by decide +kernel, by decide +kernel⟩
abbrev sp_read_slope (K : PySem.W.Frag) (A : Adr) : Sp := fun vs H Q _ => ∃ s : Int, vs = [.str (Tf.shS s)] ∧ (-10000000000000000000000000000000000000000 < s ∧ s < 10000000000000000000000000000000000000000) ∧ Q (.int s) H
theorem ok_read_slope (T : Txt w K mg A) : FnOk P w K mg base CX0 3 A.f_read_slope A.d_read_slope ["word"] (sp_read_slope K A) := by
  refine T.F_read_slope.ok sc_read_slope (fun vs H Q E h => ?_) (fun cdv Ar outer s H vs Q E hr h => ?_)
  · obtain ⟨s, rfl, hb, k⟩ := h
    rfl
  · obtain ⟨s, rfl, hb, k⟩ := h
    have hu := hu_of hr
    have t_i_Form := T.i_Form
    have t_kt_Form_Form := T.kt_Form_Form
    have t_kt_int_Form := T.kt_int_Form
    have t_nf_Form_Form := T.nf_Form_Form
    have t_nf_int_Form := T.nf_int_Form
    have t_k_Form := T.k_Form
    have l7 : (Tf.shS s).length ≤ 80 := Tf.shS_lenB (by omega)
    rcases (by omega : s = 1 ∨ s = -1 ∨ (s ≠ 1 ∧ s ≠ -1)) with rfl | rfl | ⟨n1, n2⟩
    · have a1 : decide (V.str (Tf.shS 1) = V.str "N") = true := decide_eq_true rfl
      refine ⟨_, (pss_cons (ps_if (pt_cmpR op_eq (pv 0) pe_str (nomark _)) (pss_one (ps_ret pe_int)) pss_nil)
      (pss_cons (ps_if (pt_cmpR op_eq (pv 0) pe_str (nomark _)) (pss_one (ps_ret (pe_un un_neg pe_int))) pss_nil)
      (pss_one (ps_ret (pe_call (ok_read_signed T) (hr.mono (by decide)) (by rfl) T.m_read_signed T.F_read_signed.kp T.b_read_signed .nil pass0 (pa_cons (pe_m1 PySem.F.slot_str_removesuffix PySem.F.type_str_removesuffix mt_removesuffix (pv 0) pe_str) pa_nil)))))), ?_⟩
      try dsimp only [L2.cxOf, L2.Cx.nox, L2.Cx.wish]
      with_reducible refine Rd.seq (Rd.ifS (Rd.test (Rd.op (Rd.var (by walk_at "vr") (Rd.c (Rd.eqS (by walk_at "vr") (Rd.bl (Rd.iteT (by walk_at "bT") (Rd.ret (Rd.c ?_))))))))))
      exact k
    · have a1 : decide (V.str (Tf.shS (-1)) = V.str "N") = false := by decide +kernel
      have a2 : decide (V.str (Tf.shS (-1)) = V.str "-N") = true := decide_eq_true rfl
      refine ⟨_, (pss_cons (ps_if (pt_cmpR op_eq (pv 0) pe_str (nomark _)) (pss_one (ps_ret pe_int)) pss_nil)
      (pss_cons (ps_if (pt_cmpR op_eq (pv 0) pe_str (nomark _)) (pss_one (ps_ret (pe_un un_neg pe_int))) pss_nil)
      (pss_one (ps_ret (pe_call (ok_read_signed T) (hr.mono (by decide)) (by rfl) T.m_read_signed T.F_read_signed.kp T.b_read_signed .nil pass0 (pa_cons (pe_m1 PySem.F.slot_str_removesuffix PySem.F.type_str_removesuffix mt_removesuffix (pv 0) pe_str) pa_nil)))))), ?_⟩
      try dsimp only [L2.cxOf, L2.Cx.nox, L2.Cx.wish]
      with_reducible refine Rd.seq (Rd.ifS (Rd.test (Rd.op (Rd.var (by walk_at "vr") (Rd.c (Rd.eqS (by walk_at "vr") (Rd.bl (Rd.iteF (by walk_at "bF") (Rd.next (Rd.seq (Rd.ifS ?_)))))))))))
      with_reducible refine Rd.test (Rd.op (Rd.var (by walk_at "vr") (Rd.c (Rd.eqS (by walk_at "vr") (Rd.bl (Rd.iteT (by walk_at "bT") (Rd.ret (Rd.un (Rd.c (Rd.iU ?_))))))))))
      exact k
    · have a1 : decide (V.str (Tf.shS s) = V.str "N") = false := decide_eq_false fun e => Tf.shS_nN n1 n2 (V.str.inj e)
      have a2 : decide (V.str (Tf.shS s) = V.str "-N") = false := decide_eq_false fun e => Tf.shS_nmN n1 n2 (V.str.inj e)
      refine ⟨_, (pss_cons (ps_if (pt_cmpR op_eq (pv 0) pe_str (nomark _)) (pss_one (ps_ret pe_int)) pss_nil)
      (pss_cons (ps_if (pt_cmpR op_eq (pv 0) pe_str (nomark _)) (pss_one (ps_ret (pe_un un_neg pe_int))) pss_nil)
      (pss_one (ps_ret (pe_call (ok_read_signed T) (hr.mono (by decide)) (by rfl) T.m_read_signed T.F_read_signed.kp T.b_read_signed .nil pass0 (pa_cons (pe_m1 PySem.F.slot_str_removesuffix PySem.F.type_str_removesuffix mt_removesuffix (pv 0) pe_str) pa_nil)))))), ?_⟩
      try dsimp only [L2.cxOf, L2.Cx.nox, L2.Cx.wish]
      with_reducible refine Rd.seq (Rd.ifS (Rd.test (Rd.op (Rd.var (by walk_at "vr") (Rd.c (Rd.eqS (by walk_at "vr") (Rd.bl (Rd.iteF (by walk_at "bF") (Rd.next (Rd.seq (Rd.ifS ?_)))))))))))
      with_reducible refine Rd.test (Rd.op (Rd.var (by walk_at "vr") (Rd.c (Rd.eqS (by walk_at "vr") (Rd.bl (Rd.iteF (by walk_at "bF") (Rd.next (Rd.ret (Rd.call (Rd.cons (Rd.m1 ?_)))))))))))
      with_reducible refine Rd.var (by walk_at "vr") (⟨⟨_, rfl⟩, (Rd.c ?_)⟩)
      refine ⟨_, _, rfl, rfl, (by walk_at "sz"), ?_⟩
      rw [Tf.shS_rs n1 n2]
      with_reducible refine Rd.nil ?_
      refine ⟨_, rfl, (by walk_at "sc"), ?_⟩
      exact k
/-! form_of_words -/
theorem sc_form_of_words : FnScope ["words", "slope", "base", "signed"] ["words"] (defScope s_form_of_words) := ⟨rfl, rfl, rfl, by decide +kernel, rfl, by decide +kernel, by decide +kernel⟩
abbrev sp_form_of_words (K : PySem.W.Frag) (A : Adr) : Sp := fun vs H Q _ => ∃ (p : Addr) (s b : Int), vs = [.ref p] ∧ H p = some (.lst ((Tf.wF s b).map V.str)) ∧ (-10000000000000000000000000000000000000000 < s ∧ s < 10000000000000000000000000000000000000000) ∧ (-10000000000000000000000000000000000000000 < b ∧ b < 10000000000000000000000000000000000000000) ∧ ∀ (q dq : Addr) (H' : Hp), Same H H' → H' q = some (.ins A.c_Form dq (fF s b)) → Q (.ref q) H'
theorem ok_form_of_words (T : Txt w K mg A) : FnOk P w K mg base CX0 4 A.f_form_of_words A.d_form_of_words ["words"] (sp_form_of_words K A) := by
  refine T.F_form_of_words.ok sc_form_of_words (fun vs H Q E h => ?_) (fun cdv Ar outer s H vs Q E hr h => ?_)
  · obtain ⟨p, s, b, rfl, hp, hs, hb, k⟩ := h
    rfl
  · obtain ⟨p, s, b, rfl, hp, hs, hb, k⟩ := h
    have hu := hu_of hr
    have t_i_Form := T.i_Form
    have t_kt_Form_Form := T.kt_Form_Form
    have t_kt_int_Form := T.kt_int_Form
    have t_nf_Form_Form := T.nf_Form_Form
    have t_nf_int_Form := T.nf_int_Form
    have t_k_Form := T.k_Form
    have k7 : (Tx.nS b).length ≤ 70 := Tf.nS_lenB (by omega)
    have k8 : (Tx.nS (-b)).length ≤ 70 := Tf.nS_lenB (by omega)
    obtain ⟨l1, l2, l3, l4, l5, l6⟩ := Tf.lit_lens
    have l7 : (Str.ofString (toString b)).length ≤ 70 := Tf.nS_lenB (by omega)
    have l8 : (Str.ofString (toString (-b))).length ≤ 70 := Tf.nS_lenB (by omega)
    have l9 : (Tf.shS s).length ≤ 80 := Tf.shS_lenB (by omega)
    rcases (by omega : s = 0 ∨ (s ≠ 0 ∧ 0 < b) ∨ (s ≠ 0 ∧ b < 0) ∨ (s ≠ 0 ∧ b = 0)) with rfl | ⟨n1, n2⟩ | ⟨n1, n2⟩ | ⟨n1, rfl⟩
    · rw [Tf.wF_0] at hp
      have hp' : H p = some (.lst [.str (Tx.nS b)]) := hp
      have a1 : Txt.endswith (Tx.nS b) "N" = false := Tf.nS_endN b
      refine ⟨_, (pss_cons (ps_asg (pe_tup (pa_cons pe_int (pa_cons pe_int pa_nil))) (pg_tup (by rfl) (pgs_cons (pg_name (i := 1) sc_form_of_words.nd rfl (Or.inl rfl)) (pgs_cons (pg_name (i := 2) sc_form_of_words.nd rfl (Or.inl rfl)) pgs_nil))))
      (pss_cons (ps_if (pt_val (pe_m1 PySem.F.slot_str_endswith PySem.F.type_str_endswith mt_endswith (pe_ix ix_list (pv 0) pe_int (fun _ _ => rfl)) pe_str)) (pss_one (ps_set (i := 1) sc_form_of_words.nd rfl (Or.inl rfl) (pe_call (ok_read_slope T) (hr.mono (by decide)) (by rfl) T.m_read_slope T.F_read_slope.kp T.b_read_slope .nil pass0 (pa_cons (pe_ix ix_list (pv 0) pe_int (fun _ _ => rfl)) pa_nil)))) (pss_one (ps_set (i := 2) sc_form_of_words.nd rfl (Or.inl rfl) (pe_call (ok_read_signed T) (hr.mono (by decide)) (by rfl) T.m_read_signed T.F_read_signed.kp T.b_read_signed .nil pass0 (pa_cons (pe_ix ix_list (pv 0) pe_int (fun _ _ => rfl)) pa_nil)))))
      (pss_cons (ps_if (pt_cmpR op_eq (pe_callB call_len_seq (by rfl) T.n_len PySem.boot_len (pa_cons (pv 0) pa_nil)) pe_int (nomark _)) (pss_cons (ps_set (i := 3) sc_form_of_words.nd rfl (Or.inl rfl) (pe_op op_add_str (pe_ix ix_list (pv 0) pe_int (fun _ _ => rfl)) (pe_ix ix_list (pv 0) pe_int (fun _ _ => rfl))))
      (pss_one (ps_set (i := 2) sc_form_of_words.nd rfl (Or.inl rfl) (pe_call (ok_read_signed T) (hr.mono (by decide)) (by rfl) T.m_read_signed T.F_read_signed.kp T.b_read_signed .nil pass0 (pa_cons (pe_m1 PySem.F.slot_str_removeprefix PySem.F.type_str_removeprefix mt_removeprefix (pv 3) pe_str) pa_nil))))) pss_nil)
      (pss_one (ps_ret (pe_make T.K_Form (ok_Formu__initu_ T) (hr.mono (by decide)) (by rfl) T.m_Form T.b_Formu__initu_ .nil pass0 (pa_cons (pv 1) (pa_cons (pv 2) pa_nil)))))))), ?_⟩
      try dsimp only [L2.cxOf, L2.Cx.nox, L2.Cx.wish]
      with_reducible refine Rd.seq (Rd.asg (Rd.tup (Rd.cons (Rd.c (Rd.cons (Rd.c (Rd.nil (Rd.laid (by walk_at "ll") ?_))))))))
      intro p0 np0
      refine Rd.gtup (by walk_at "hpt") rfl ?_
      with_reducible refine Rd.gcons (Rd.name (Rd.gcons (Rd.name (Rd.gnil (Rd.seq (Rd.ifS (Rd.tb (Rd.m1 (Rd.op (Rd.var (by walk_at "vr") (Rd.c ?_)))))))))))
      with_reducible refine Rd.ixL (by walk_at "hpl") (by walk_at "vr") (⟨⟨_, rfl⟩, (Rd.c (⟨_, _, rfl, rfl, (Rd.bl (Rd.iteF (by walk_at "bF") (Rd.asg (Rd.call (Rd.cons (Rd.op (Rd.var (by walk_at "vr") (Rd.c ?_))))))))⟩))⟩)
      with_reducible refine Rd.ixL (by walk_at "hpl") (by walk_at "vr") (Rd.nil ?_)
      refine ⟨_, rfl, (by walk_at "sc"), ?_⟩
      with_reducible refine Rd.name (Rd.seq (Rd.ifS (Rd.test (Rd.op (Rd.cB (Rd.cons (Rd.var (by walk_at "vr") (Rd.nil (⟨_, _, rfl, (by walk_at "hpq"), (Rd.c (Rd.eqS (by walk_at "vr") ?_))⟩)))))))))
      with_reducible refine Rd.bl (Rd.iteF (by walk_at "bF") (Rd.next (Rd.ret (Rd.make (Rd.cons (Rd.var (by walk_at "vr") (Rd.cons (Rd.var (by walk_at "vr") (Rd.nil ?_)))))))))
      intro x2 dx2 nx2 ndx2 ne2
      refine ⟨_, _, _, _, rfl, L2.upd_same, ?_⟩
      refine ⟨rfl, ?_⟩
      rw [L2.upd_upd]
      exact k _ _ _ (by walk_at "frm") L2.upd_same
    · have a1 : Txt.endswith (Tf.shS s) "N" = true := Tf.shS_endN s
      rw [Tf.wF_p n1 n2] at hp
      have hp' : H p = some (.lst [.str (Tf.shS s), .str "+", .str (Tx.nS b)]) := hp
      refine ⟨_, (pss_cons (ps_asg (pe_tup (pa_cons pe_int (pa_cons pe_int pa_nil))) (pg_tup (by rfl) (pgs_cons (pg_name (i := 1) sc_form_of_words.nd rfl (Or.inl rfl)) (pgs_cons (pg_name (i := 2) sc_form_of_words.nd rfl (Or.inl rfl)) pgs_nil))))
      (pss_cons (ps_if (pt_val (pe_m1 PySem.F.slot_str_endswith PySem.F.type_str_endswith mt_endswith (pe_ix ix_list (pv 0) pe_int (fun _ _ => rfl)) pe_str)) (pss_one (ps_set (i := 1) sc_form_of_words.nd rfl (Or.inl rfl) (pe_call (ok_read_slope T) (hr.mono (by decide)) (by rfl) T.m_read_slope T.F_read_slope.kp T.b_read_slope .nil pass0 (pa_cons (pe_ix ix_list (pv 0) pe_int (fun _ _ => rfl)) pa_nil)))) (pss_one (ps_set (i := 2) sc_form_of_words.nd rfl (Or.inl rfl) (pe_call (ok_read_signed T) (hr.mono (by decide)) (by rfl) T.m_read_signed T.F_read_signed.kp T.b_read_signed .nil pass0 (pa_cons (pe_ix ix_list (pv 0) pe_int (fun _ _ => rfl)) pa_nil)))))
      (pss_cons (ps_if (pt_cmpR op_eq (pe_callB call_len_seq (by rfl) T.n_len PySem.boot_len (pa_cons (pv 0) pa_nil)) pe_int (nomark _)) (pss_cons (ps_set (i := 3) sc_form_of_words.nd rfl (Or.inl rfl) (pe_op op_add_str (pe_ix ix_list (pv 0) pe_int (fun _ _ => rfl)) (pe_ix ix_list (pv 0) pe_int (fun _ _ => rfl))))
      (pss_one (ps_set (i := 2) sc_form_of_words.nd rfl (Or.inl rfl) (pe_call (ok_read_signed T) (hr.mono (by decide)) (by rfl) T.m_read_signed T.F_read_signed.kp T.b_read_signed .nil pass0 (pa_cons (pe_m1 PySem.F.slot_str_removeprefix PySem.F.type_str_removeprefix mt_removeprefix (pv 3) pe_str) pa_nil))))) pss_nil)
      (pss_one (ps_ret (pe_make T.K_Form (ok_Formu__initu_ T) (hr.mono (by decide)) (by rfl) T.m_Form T.b_Formu__initu_ .nil pass0 (pa_cons (pv 1) (pa_cons (pv 2) pa_nil)))))))), ?_⟩
      try dsimp only [L2.cxOf, L2.Cx.nox, L2.Cx.wish]
      with_reducible refine Rd.seq (Rd.asg (Rd.tup (Rd.cons (Rd.c (Rd.cons (Rd.c (Rd.nil (Rd.laid (by walk_at "ll") ?_))))))))
      intro p0 np0
      refine Rd.gtup (by walk_at "hpt") rfl ?_
      with_reducible refine Rd.gcons (Rd.name (Rd.gcons (Rd.name (Rd.gnil (Rd.seq (Rd.ifS (Rd.tb (Rd.m1 (Rd.op (Rd.var (by walk_at "vr") (Rd.c ?_)))))))))))
      with_reducible refine Rd.ixL (by walk_at "hpl") (by walk_at "vr") (⟨⟨_, rfl⟩, (Rd.c (⟨_, _, rfl, rfl, (Rd.bl (Rd.iteT (by walk_at "bT") (Rd.asg (Rd.call (Rd.cons (Rd.op (Rd.var (by walk_at "vr") (Rd.c ?_))))))))⟩))⟩)
      with_reducible refine Rd.ixL (by walk_at "hpl") (by walk_at "vr") (Rd.nil ?_)
      refine ⟨_, rfl, (by walk_at "sc"), ?_⟩
      with_reducible refine Rd.name (Rd.seq (Rd.ifS (Rd.test (Rd.op (Rd.cB (Rd.cons (Rd.var (by walk_at "vr") (Rd.nil (⟨_, _, rfl, (by walk_at "hpq"), (Rd.c (Rd.eqS (by walk_at "vr") ?_))⟩)))))))))
      with_reducible refine Rd.bl (Rd.iteT (by walk_at "bT") (Rd.seq (Rd.asg (Rd.op (Rd.op (Rd.var (by walk_at "vr") (Rd.c (Rd.ixL (by walk_at "hpl") (by walk_at "vr") (Rd.op (Rd.var (by walk_at "vr") (Rd.c ?_)))))))))))
      with_reducible refine Rd.ixL (by walk_at "hpl") (by walk_at "vr") (⟨_, _, rfl, rfl, (by first | walk_at "sc" | walk_at "sz"), (Rd.name (Rd.asg (Rd.call (Rd.cons (Rd.m1 (Rd.var (by walk_at "vr") (⟨⟨_, rfl⟩, (Rd.c ?_)⟩)))))))⟩)
      refine ⟨_, _, rfl, rfl, (by walk_at "sz"), ?_⟩
      rw [Tf.pl_rp]
      with_reducible refine Rd.nil ?_
      refine ⟨_, rfl, (by walk_at "sc"), ?_⟩
      with_reducible refine Rd.name (Rd.ret (Rd.make (Rd.cons (Rd.var (by walk_at "vr") (Rd.cons (Rd.var (by walk_at "vr") (Rd.nil ?_)))))))
      intro x3 dx3 nx3 ndx3 ne3
      refine ⟨_, _, _, _, rfl, L2.upd_same, ?_⟩
      refine ⟨rfl, ?_⟩
      rw [L2.upd_upd]
      exact k _ _ _ (by walk_at "frm") L2.upd_same
    · have a1 : Txt.endswith (Tf.shS s) "N" = true := Tf.shS_endN s
      rw [Tf.wF_n n1 n2] at hp
      have hp' : H p = some (.lst [.str (Tf.shS s), .str "-", .str (Tx.nS (-b))]) := hp
      refine ⟨_, (pss_cons (ps_asg (pe_tup (pa_cons pe_int (pa_cons pe_int pa_nil))) (pg_tup (by rfl) (pgs_cons (pg_name (i := 1) sc_form_of_words.nd rfl (Or.inl rfl)) (pgs_cons (pg_name (i := 2) sc_form_of_words.nd rfl (Or.inl rfl)) pgs_nil))))
      (pss_cons (ps_if (pt_val (pe_m1 PySem.F.slot_str_endswith PySem.F.type_str_endswith mt_endswith (pe_ix ix_list (pv 0) pe_int (fun _ _ => rfl)) pe_str)) (pss_one (ps_set (i := 1) sc_form_of_words.nd rfl (Or.inl rfl) (pe_call (ok_read_slope T) (hr.mono (by decide)) (by rfl) T.m_read_slope T.F_read_slope.kp T.b_read_slope .nil pass0 (pa_cons (pe_ix ix_list (pv 0) pe_int (fun _ _ => rfl)) pa_nil)))) (pss_one (ps_set (i := 2) sc_form_of_words.nd rfl (Or.inl rfl) (pe_call (ok_read_signed T) (hr.mono (by decide)) (by rfl) T.m_read_signed T.F_read_signed.kp T.b_read_signed .nil pass0 (pa_cons (pe_ix ix_list (pv 0) pe_int (fun _ _ => rfl)) pa_nil)))))
      (pss_cons (ps_if (pt_cmpR op_eq (pe_callB call_len_seq (by rfl) T.n_len PySem.boot_len (pa_cons (pv 0) pa_nil)) pe_int (nomark _)) (pss_cons (ps_set (i := 3) sc_form_of_words.nd rfl (Or.inl rfl) (pe_op op_add_str (pe_ix ix_list (pv 0) pe_int (fun _ _ => rfl)) (pe_ix ix_list (pv 0) pe_int (fun _ _ => rfl))))
      (pss_one (ps_set (i := 2) sc_form_of_words.nd rfl (Or.inl rfl) (pe_call (ok_read_signed T) (hr.mono (by decide)) (by rfl) T.m_read_signed T.F_read_signed.kp T.b_read_signed .nil pass0 (pa_cons (pe_m1 PySem.F.slot_str_removeprefix PySem.F.type_str_removeprefix mt_removeprefix (pv 3) pe_str) pa_nil))))) pss_nil)
      (pss_one (ps_ret (pe_make T.K_Form (ok_Formu__initu_ T) (hr.mono (by decide)) (by rfl) T.m_Form T.b_Formu__initu_ .nil pass0 (pa_cons (pv 1) (pa_cons (pv 2) pa_nil)))))))), ?_⟩
      try dsimp only [L2.cxOf, L2.Cx.nox, L2.Cx.wish]
      with_reducible refine Rd.seq (Rd.asg (Rd.tup (Rd.cons (Rd.c (Rd.cons (Rd.c (Rd.nil (Rd.laid (by walk_at "ll") ?_))))))))
      intro p0 np0
      refine Rd.gtup (by walk_at "hpt") rfl ?_
      with_reducible refine Rd.gcons (Rd.name (Rd.gcons (Rd.name (Rd.gnil (Rd.seq (Rd.ifS (Rd.tb (Rd.m1 (Rd.op (Rd.var (by walk_at "vr") (Rd.c ?_)))))))))))
      with_reducible refine Rd.ixL (by walk_at "hpl") (by walk_at "vr") (⟨⟨_, rfl⟩, (Rd.c (⟨_, _, rfl, rfl, (Rd.bl (Rd.iteT (by walk_at "bT") (Rd.asg (Rd.call (Rd.cons (Rd.op (Rd.var (by walk_at "vr") (Rd.c ?_))))))))⟩))⟩)
      with_reducible refine Rd.ixL (by walk_at "hpl") (by walk_at "vr") (Rd.nil ?_)
      refine ⟨_, rfl, (by walk_at "sc"), ?_⟩
      with_reducible refine Rd.name (Rd.seq (Rd.ifS (Rd.test (Rd.op (Rd.cB (Rd.cons (Rd.var (by walk_at "vr") (Rd.nil (⟨_, _, rfl, (by walk_at "hpq"), (Rd.c (Rd.eqS (by walk_at "vr") ?_))⟩)))))))))
      with_reducible refine Rd.bl (Rd.iteT (by walk_at "bT") (Rd.seq (Rd.asg (Rd.op (Rd.op (Rd.var (by walk_at "vr") (Rd.c (Rd.ixL (by walk_at "hpl") (by walk_at "vr") (Rd.op (Rd.var (by walk_at "vr") (Rd.c ?_)))))))))))
      with_reducible refine Rd.ixL (by walk_at "hpl") (by walk_at "vr") (⟨_, _, rfl, rfl, (by first | walk_at "sc" | walk_at "sz"), (Rd.name (Rd.asg (Rd.call (Rd.cons (Rd.m1 (Rd.var (by walk_at "vr") (⟨⟨_, rfl⟩, (Rd.c ?_)⟩)))))))⟩)
      refine ⟨_, _, rfl, rfl, (by walk_at "sz"), ?_⟩
      rw [Tf.mi_app n2, Tf.nS_rpp]
      with_reducible refine Rd.nil ?_
      refine ⟨_, rfl, (by walk_at "sc"), ?_⟩
      with_reducible refine Rd.name (Rd.ret (Rd.make (Rd.cons (Rd.var (by walk_at "vr") (Rd.cons (Rd.var (by walk_at "vr") (Rd.nil ?_)))))))
      intro x3 dx3 nx3 ndx3 ne3
      refine ⟨_, _, _, _, rfl, L2.upd_same, ?_⟩
      refine ⟨rfl, ?_⟩
      rw [L2.upd_upd]
      exact k _ _ _ (by walk_at "frm") L2.upd_same
    · have a1 : Txt.endswith (Tf.shS s) "N" = true := Tf.shS_endN s
      rw [Tf.wF_z n1] at hp
      have hp' : H p = some (.lst [.str (Tf.shS s)]) := hp
      refine ⟨_, (pss_cons (ps_asg (pe_tup (pa_cons pe_int (pa_cons pe_int pa_nil))) (pg_tup (by rfl) (pgs_cons (pg_name (i := 1) sc_form_of_words.nd rfl (Or.inl rfl)) (pgs_cons (pg_name (i := 2) sc_form_of_words.nd rfl (Or.inl rfl)) pgs_nil))))
      (pss_cons (ps_if (pt_val (pe_m1 PySem.F.slot_str_endswith PySem.F.type_str_endswith mt_endswith (pe_ix ix_list (pv 0) pe_int (fun _ _ => rfl)) pe_str)) (pss_one (ps_set (i := 1) sc_form_of_words.nd rfl (Or.inl rfl) (pe_call (ok_read_slope T) (hr.mono (by decide)) (by rfl) T.m_read_slope T.F_read_slope.kp T.b_read_slope .nil pass0 (pa_cons (pe_ix ix_list (pv 0) pe_int (fun _ _ => rfl)) pa_nil)))) (pss_one (ps_set (i := 2) sc_form_of_words.nd rfl (Or.inl rfl) (pe_call (ok_read_signed T) (hr.mono (by decide)) (by rfl) T.m_read_signed T.F_read_signed.kp T.b_read_signed .nil pass0 (pa_cons (pe_ix ix_list (pv 0) pe_int (fun _ _ => rfl)) pa_nil)))))
      (pss_cons (ps_if (pt_cmpR op_eq (pe_callB call_len_seq (by rfl) T.n_len PySem.boot_len (pa_cons (pv 0) pa_nil)) pe_int (nomark _)) (pss_cons (ps_set (i := 3) sc_form_of_words.nd rfl (Or.inl rfl) (pe_op op_add_str (pe_ix ix_list (pv 0) pe_int (fun _ _ => rfl)) (pe_ix ix_list (pv 0) pe_int (fun _ _ => rfl))))
      (pss_one (ps_set (i := 2) sc_form_of_words.nd rfl (Or.inl rfl) (pe_call (ok_read_signed T) (hr.mono (by decide)) (by rfl) T.m_read_signed T.F_read_signed.kp T.b_read_signed .nil pass0 (pa_cons (pe_m1 PySem.F.slot_str_removeprefix PySem.F.type_str_removeprefix mt_removeprefix (pv 3) pe_str) pa_nil))))) pss_nil)
      (pss_one (ps_ret (pe_make T.K_Form (ok_Formu__initu_ T) (hr.mono (by decide)) (by rfl) T.m_Form T.b_Formu__initu_ .nil pass0 (pa_cons (pv 1) (pa_cons (pv 2) pa_nil)))))))), ?_⟩
      try dsimp only [L2.cxOf, L2.Cx.nox, L2.Cx.wish]
      with_reducible refine Rd.seq (Rd.asg (Rd.tup (Rd.cons (Rd.c (Rd.cons (Rd.c (Rd.nil (Rd.laid (by walk_at "ll") ?_))))))))
      intro p0 np0
      refine Rd.gtup (by walk_at "hpt") rfl ?_
      with_reducible refine Rd.gcons (Rd.name (Rd.gcons (Rd.name (Rd.gnil (Rd.seq (Rd.ifS (Rd.tb (Rd.m1 (Rd.op (Rd.var (by walk_at "vr") (Rd.c ?_)))))))))))
      with_reducible refine Rd.ixL (by walk_at "hpl") (by walk_at "vr") (⟨⟨_, rfl⟩, (Rd.c (⟨_, _, rfl, rfl, (Rd.bl (Rd.iteT (by walk_at "bT") (Rd.asg (Rd.call (Rd.cons (Rd.op (Rd.var (by walk_at "vr") (Rd.c ?_))))))))⟩))⟩)
      with_reducible refine Rd.ixL (by walk_at "hpl") (by walk_at "vr") (Rd.nil ?_)
      refine ⟨_, rfl, (by walk_at "sc"), ?_⟩
      with_reducible refine Rd.name (Rd.seq (Rd.ifS (Rd.test (Rd.op (Rd.cB (Rd.cons (Rd.var (by walk_at "vr") (Rd.nil (⟨_, _, rfl, (by walk_at "hpq"), (Rd.c (Rd.eqS (by walk_at "vr") ?_))⟩)))))))))
      with_reducible refine Rd.bl (Rd.iteF (by walk_at "bF") (Rd.next (Rd.ret (Rd.make (Rd.cons (Rd.var (by walk_at "vr") (Rd.cons (Rd.var (by walk_at "vr") (Rd.nil ?_)))))))))
      intro x2 dx2 nx2 ndx2 ne2
      refine ⟨_, _, _, _, rfl, L2.upd_same, ?_⟩
      refine ⟨rfl, ?_⟩
      rw [L2.upd_upd]
      exact k _ _ _ (by walk_at "frm") L2.upd_same
/-! show_slope -/
theorem sc_show_slope : FnScope ["slope"] ["slope"] (defScope s_show_slope) := ⟨rfl, rfl, rfl, by decide +kernel, rfl, by decide +kernel, by decide +kernel⟩
abbrev sp_show_slope (K : PySem.W.Frag) (A : Adr) : Sp := fun vs H Q _ => ∃ s : Int, vs = [.int s] ∧ (-(2 ^ 150) < s ∧ s < 2 ^ 150) ∧ Q (.str (Tf.shS s)) H
theorem ok_show_slope (T : Txt w K mg A) : FnOk P w K mg base CX0 1 A.f_show_slope A.d_show_slope ["slope"] (sp_show_slope K A) := by
  refine T.F_show_slope.ok sc_show_slope (fun vs H Q E h => ?_) (fun cdv Ar outer s H vs Q E hr h => ?_)
  · obtain ⟨s, rfl, hb, k⟩ := h
    rfl
  · obtain ⟨s, rfl, hb, k⟩ := h
    have hu := hu_of hr
    have t_i_Form := T.i_Form
    have t_kt_Form_Form := T.kt_Form_Form
    have t_kt_int_Form := T.kt_int_Form
    have t_nf_Form_Form := T.nf_Form_Form
    have t_nf_int_Form := T.nf_int_Form
    have t_k_Form := T.k_Form
    obtain ⟨l1, l2, l3, l4, l5, l6⟩ := Tf.lit_lens
    have l7 : (Str.ofString (toString s)).length ≤ 70 := Tf.nS_lenB (by omega)
    rcases (by omega : s = 1 ∨ s = -1 ∨ (s ≠ 1 ∧ s ≠ -1)) with rfl | rfl | ⟨n1, n2⟩
    · skip
      refine ⟨_, (pss_cons (ps_if (pt_cmpR op_eq (pv 0) pe_int (nomark _)) (pss_one (ps_ret pe_str)) pss_nil)
      (pss_cons (ps_if (pt_cmpR op_eq (pv 0) (pe_un un_neg pe_int) (nomark _)) (pss_one (ps_ret pe_str)) pss_nil)
      (pss_one (ps_ret (pe_joined (L2.PJ.cons (pe_fmt (pv 0)) (L2.PJ.cons pe_str L2.PJ.nil))))))), ?_⟩
      try dsimp only [L2.cxOf, L2.Cx.nox, L2.Cx.wish]
      with_reducible refine Rd.seq (Rd.ifS (Rd.test (Rd.op (Rd.var (by walk_at "vr") (Rd.c (Rd.eqS (by walk_at "vr") (Rd.bl (Rd.iteT (by walk_at "bT") (Rd.ret (Rd.c ?_))))))))))
      exact k
    · skip
      refine ⟨_, (pss_cons (ps_if (pt_cmpR op_eq (pv 0) pe_int (nomark _)) (pss_one (ps_ret pe_str)) pss_nil)
      (pss_cons (ps_if (pt_cmpR op_eq (pv 0) (pe_un un_neg pe_int) (nomark _)) (pss_one (ps_ret pe_str)) pss_nil)
      (pss_one (ps_ret (pe_joined (L2.PJ.cons (pe_fmt (pv 0)) (L2.PJ.cons pe_str L2.PJ.nil))))))), ?_⟩
      try dsimp only [L2.cxOf, L2.Cx.nox, L2.Cx.wish]
      with_reducible refine Rd.seq (Rd.ifS (Rd.test (Rd.op (Rd.var (by walk_at "vr") (Rd.c (Rd.eqS (by walk_at "vr") (Rd.bl (Rd.iteF (by walk_at "bF") (Rd.next (Rd.seq (Rd.ifS ?_)))))))))))
      with_reducible refine Rd.test (Rd.op (Rd.var (by walk_at "vr") (Rd.un (Rd.c (Rd.iU (Rd.eqS (by walk_at "vr") (Rd.bl (Rd.iteT (by walk_at "bT") (Rd.ret (Rd.c ?_))))))))))
      exact k
    · skip
      refine ⟨_, (pss_cons (ps_if (pt_cmpR op_eq (pv 0) pe_int (nomark _)) (pss_one (ps_ret pe_str)) pss_nil)
      (pss_cons (ps_if (pt_cmpR op_eq (pv 0) (pe_un un_neg pe_int) (nomark _)) (pss_one (ps_ret pe_str)) pss_nil)
      (pss_one (ps_ret (pe_joined (L2.PJ.cons (pe_fmt (pv 0)) (L2.PJ.cons pe_str L2.PJ.nil))))))), ?_⟩
      try dsimp only [L2.cxOf, L2.Cx.nox, L2.Cx.wish]
      with_reducible refine Rd.seq (Rd.ifS (Rd.test (Rd.op (Rd.var (by walk_at "vr") (Rd.c (Rd.eqS (by walk_at "vr") (Rd.bl (Rd.iteF (by walk_at "bF") (Rd.next (Rd.seq (Rd.ifS ?_)))))))))))
      with_reducible refine Rd.test (Rd.op (Rd.var (by walk_at "vr") (Rd.un (Rd.c (Rd.iU (Rd.eqS (by walk_at "vr") (Rd.bl (Rd.iteF (by walk_at "bF") (Rd.next (Rd.ret ?_))))))))))
      unfold L2.tJs
      with_reducible refine Rd.fmt (Rd.var (by walk_at "vr") ?_)
      refine .inr ⟨_, rfl, (by walk_at "lg"), ?_⟩
      refine ⟨_, rfl, (by walk_at "sz"), ?_⟩
      unfold L2.tJs
      with_reducible refine Rd.c ?_
      refine ⟨_, rfl, (by walk_at "sz"), ?_⟩
      unfold L2.tJs
      rw [Tf.shS_o n1 n2] at k
      exact k
/-! show_form -/
theorem sc_show_form : FnScope ["form", "shown"] ["form"] (defScope s_show_form) := ⟨rfl, rfl, rfl, by decide +kernel, rfl, by decide +kernel, by decide +kernel⟩
abbrev sp_show_form (K : PySem.W.Frag) (A : Adr) : Sp := fun vs H Q _ => ∃ (p dx : Addr) (s b : Int), vs = [.ref p] ∧ H p = some (.ins A.c_Form dx (fF s b)) ∧ (-(2 ^ 150) < s ∧ s < 2 ^ 150) ∧ (-(2 ^ 150) < b ∧ b < 2 ^ 150) ∧ Q (.str (Tf.shF s b)) H
theorem ok_show_form (T : Txt w K mg A) : FnOk P w K mg base CX0 2 A.f_show_form A.d_show_form ["form"] (sp_show_form K A) := by
  refine T.F_show_form.ok sc_show_form (fun vs H Q E h => ?_) (fun cdv Ar outer s H vs Q E hr h => ?_)
  · obtain ⟨p, dx, s, b, rfl, hp, hs, hb, k⟩ := h
    rfl
  · obtain ⟨p, dx, s, b, rfl, hp, hs, hb, k⟩ := h
    have hu := hu_of hr
    have t_i_Form := T.i_Form
    have t_kt_Form_Form := T.kt_Form_Form
    have t_kt_int_Form := T.kt_int_Form
    have t_nf_Form_Form := T.nf_Form_Form
    have t_nf_int_Form := T.nf_int_Form
    have t_k_Form := T.k_Form
    obtain ⟨l1, l2, l3, l4, l5, l6⟩ := Tf.lit_lens
    have l7 : (Str.ofString (toString b)).length ≤ 70 := Tf.nS_lenB (by omega)
    have l8 : (Str.ofString (toString (-b))).length ≤ 70 := Tf.nS_lenB (by omega)
    have l9 : (Tf.shS s).length ≤ 80 := Tf.shS_lenB (by omega)
    rcases (by omega : s = 0 ∨ (s ≠ 0 ∧ 0 < b) ∨ (s ≠ 0 ∧ b < 0) ∨ (s ≠ 0 ∧ b = 0)) with rfl | ⟨n1, n2⟩ | ⟨n1, n2⟩ | ⟨n1, rfl⟩
    · skip
      refine ⟨_, (pss_cons (ps_if (pt_cmpR op_eq (pe_fld (pv 0) rfl) pe_int (nomark _)) (pss_one (ps_ret (pe_callTy call_str_int (by rfl) T.n_str (by decide +kernel) (pa_cons (pe_fld (pv 0) rfl) pa_nil)))) pss_nil)
      (pss_cons (ps_set (i := 1) sc_show_form.nd rfl (Or.inl rfl) (pe_call (ok_show_slope T) (hr.mono (by decide)) (by rfl) T.m_show_slope T.F_show_slope.kp T.b_show_slope .nil pass0 (pa_cons (pe_fld (pv 0) rfl) pa_nil)))
      (pss_cons (ps_if (pt_cmpR op_gt (pe_fld (pv 0) rfl) pe_int (nomark _)) (pss_one (ps_ret (pe_joined (L2.PJ.cons (pe_fmt (pv 1)) (L2.PJ.cons pe_str (L2.PJ.cons (pe_fmt (pe_fld (pv 0) rfl)) L2.PJ.nil)))))) pss_nil)
      (pss_cons (ps_if (pt_cmpR op_lt (pe_fld (pv 0) rfl) pe_int (nomark _)) (pss_one (ps_ret (pe_joined (L2.PJ.cons (pe_fmt (pv 1)) (L2.PJ.cons pe_str (L2.PJ.cons (pe_fmt (pe_un un_neg (pe_fld (pv 0) rfl))) L2.PJ.nil)))))) pss_nil)
      (pss_one (ps_ret (pv 1))))))), ?_⟩
      try dsimp only [L2.cxOf, L2.Cx.nox, L2.Cx.wish]
      with_reducible refine Rd.seq (Rd.ifS (Rd.test (Rd.op (Rd.fld (Rd.var (by walk_at "vr") (⟨_, _, _, _, _, rfl, (by walk_at "hp"), T.k_Form, T.n_Form_slope, (by walk_at "lk"), (Rd.c (Rd.eqS (by walk_at "vr") (Rd.bl (Rd.iteT (by walk_at "bT") (Rd.ret ?_)))))⟩))))))
      with_reducible refine Rd.cB (Rd.cons (Rd.fld (Rd.var (by walk_at "vr") (⟨_, _, _, _, _, rfl, (by walk_at "hp"), T.k_Form, T.n_Form_base, (by walk_at "lk"), (Rd.nil ?_)⟩))))
      refine ⟨_, rfl, (by walk_at "lg"), ?_⟩
      rw [Tf.shF_0] at k
      exact k
    · skip
      refine ⟨_, (pss_cons (ps_if (pt_cmpR op_eq (pe_fld (pv 0) rfl) pe_int (nomark _)) (pss_one (ps_ret (pe_callTy call_str_int (by rfl) T.n_str (by decide +kernel) (pa_cons (pe_fld (pv 0) rfl) pa_nil)))) pss_nil)
      (pss_cons (ps_set (i := 1) sc_show_form.nd rfl (Or.inl rfl) (pe_call (ok_show_slope T) (hr.mono (by decide)) (by rfl) T.m_show_slope T.F_show_slope.kp T.b_show_slope .nil pass0 (pa_cons (pe_fld (pv 0) rfl) pa_nil)))
      (pss_cons (ps_if (pt_cmpR op_gt (pe_fld (pv 0) rfl) pe_int (nomark _)) (pss_one (ps_ret (pe_joined (L2.PJ.cons (pe_fmt (pv 1)) (L2.PJ.cons pe_str (L2.PJ.cons (pe_fmt (pe_fld (pv 0) rfl)) L2.PJ.nil)))))) pss_nil)
      (pss_cons (ps_if (pt_cmpR op_lt (pe_fld (pv 0) rfl) pe_int (nomark _)) (pss_one (ps_ret (pe_joined (L2.PJ.cons (pe_fmt (pv 1)) (L2.PJ.cons pe_str (L2.PJ.cons (pe_fmt (pe_un un_neg (pe_fld (pv 0) rfl))) L2.PJ.nil)))))) pss_nil)
      (pss_one (ps_ret (pv 1))))))), ?_⟩
      try dsimp only [L2.cxOf, L2.Cx.nox, L2.Cx.wish]
      with_reducible refine Rd.seq (Rd.ifS (Rd.test (Rd.op (Rd.fld (Rd.var (by walk_at "vr") (⟨_, _, _, _, _, rfl, (by walk_at "hp"), T.k_Form, T.n_Form_slope, (by walk_at "lk"), (Rd.c (Rd.eqS (by walk_at "vr") (Rd.bl (Rd.iteF (by walk_at "bF") (Rd.next ?_)))))⟩))))))
      with_reducible refine Rd.seq (Rd.asg (Rd.call (Rd.cons (Rd.fld (Rd.var (by walk_at "vr") (⟨_, _, _, _, _, rfl, (by walk_at "hp"), T.k_Form, T.n_Form_slope, (by walk_at "lk"), (Rd.nil ?_)⟩))))))
      refine ⟨_, rfl, (by walk_at "sc"), ?_⟩
      with_reducible refine Rd.name (Rd.seq (Rd.ifS (Rd.test (Rd.op (Rd.fld (Rd.var (by walk_at "vr") (⟨_, _, _, _, _, rfl, (by walk_at "hp"), T.k_Form, T.n_Form_base, (by walk_at "lk"), (Rd.c (Rd.i0 (Rd.bl (Rd.iteT (by walk_at "bT") ?_))))⟩)))))))
      with_reducible refine Rd.ret ?_
      unfold L2.tJs
      with_reducible refine Rd.fmt (Rd.var (by walk_at "vr") ?_)
      refine .inl ⟨_, rfl, (by walk_at "sz"), ?_⟩
      refine ⟨_, rfl, (by walk_at "sz"), ?_⟩
      unfold L2.tJs
      with_reducible refine Rd.c ?_
      refine ⟨_, rfl, (by walk_at "sz"), ?_⟩
      unfold L2.tJs
      with_reducible refine Rd.fmt (Rd.fld (Rd.var (by walk_at "vr") (⟨_, _, _, _, _, rfl, (by walk_at "hp"), T.k_Form, T.n_Form_base, (by walk_at "lk"), ?_⟩)))
      refine .inr ⟨_, rfl, (by walk_at "lg"), ?_⟩
      refine ⟨_, rfl, (by walk_at "sz"), ?_⟩
      unfold L2.tJs
      rw [Tf.shF_p n1 n2] at k
      exact k
    · skip
      refine ⟨_, (pss_cons (ps_if (pt_cmpR op_eq (pe_fld (pv 0) rfl) pe_int (nomark _)) (pss_one (ps_ret (pe_callTy call_str_int (by rfl) T.n_str (by decide +kernel) (pa_cons (pe_fld (pv 0) rfl) pa_nil)))) pss_nil)
      (pss_cons (ps_set (i := 1) sc_show_form.nd rfl (Or.inl rfl) (pe_call (ok_show_slope T) (hr.mono (by decide)) (by rfl) T.m_show_slope T.F_show_slope.kp T.b_show_slope .nil pass0 (pa_cons (pe_fld (pv 0) rfl) pa_nil)))
      (pss_cons (ps_if (pt_cmpR op_gt (pe_fld (pv 0) rfl) pe_int (nomark _)) (pss_one (ps_ret (pe_joined (L2.PJ.cons (pe_fmt (pv 1)) (L2.PJ.cons pe_str (L2.PJ.cons (pe_fmt (pe_fld (pv 0) rfl)) L2.PJ.nil)))))) pss_nil)
      (pss_cons (ps_if (pt_cmpR op_lt (pe_fld (pv 0) rfl) pe_int (nomark _)) (pss_one (ps_ret (pe_joined (L2.PJ.cons (pe_fmt (pv 1)) (L2.PJ.cons pe_str (L2.PJ.cons (pe_fmt (pe_un un_neg (pe_fld (pv 0) rfl))) L2.PJ.nil)))))) pss_nil)
      (pss_one (ps_ret (pv 1))))))), ?_⟩
      try dsimp only [L2.cxOf, L2.Cx.nox, L2.Cx.wish]
      with_reducible refine Rd.seq (Rd.ifS (Rd.test (Rd.op (Rd.fld (Rd.var (by walk_at "vr") (⟨_, _, _, _, _, rfl, (by walk_at "hp"), T.k_Form, T.n_Form_slope, (by walk_at "lk"), (Rd.c (Rd.eqS (by walk_at "vr") (Rd.bl (Rd.iteF (by walk_at "bF") (Rd.next ?_)))))⟩))))))
      with_reducible refine Rd.seq (Rd.asg (Rd.call (Rd.cons (Rd.fld (Rd.var (by walk_at "vr") (⟨_, _, _, _, _, rfl, (by walk_at "hp"), T.k_Form, T.n_Form_slope, (by walk_at "lk"), (Rd.nil ?_)⟩))))))
      refine ⟨_, rfl, (by walk_at "sc"), ?_⟩
      with_reducible refine Rd.name (Rd.seq (Rd.ifS (Rd.test (Rd.op (Rd.fld (Rd.var (by walk_at "vr") (⟨_, _, _, _, _, rfl, (by walk_at "hp"), T.k_Form, T.n_Form_base, (by walk_at "lk"), (Rd.c (Rd.i0 (Rd.bl (Rd.iteF (by walk_at "bF") ?_))))⟩)))))))
      with_reducible refine Rd.next (Rd.seq (Rd.ifS (Rd.test (Rd.op (Rd.fld (Rd.var (by walk_at "vr") (⟨_, _, _, _, _, rfl, (by walk_at "hp"), T.k_Form, T.n_Form_base, (by walk_at "lk"), (Rd.c (Rd.i0 (Rd.bl (Rd.iteT (by walk_at "bT") ?_))))⟩)))))))
      with_reducible refine Rd.ret ?_
      unfold L2.tJs
      with_reducible refine Rd.fmt (Rd.var (by walk_at "vr") ?_)
      refine .inl ⟨_, rfl, (by walk_at "sz"), ?_⟩
      refine ⟨_, rfl, (by walk_at "sz"), ?_⟩
      unfold L2.tJs
      with_reducible refine Rd.c ?_
      refine ⟨_, rfl, (by walk_at "sz"), ?_⟩
      unfold L2.tJs
      with_reducible refine Rd.fmt (Rd.un (Rd.fld (Rd.var (by walk_at "vr") (⟨_, _, _, _, _, rfl, (by walk_at "hp"), T.k_Form, T.n_Form_base, (by walk_at "lk"), (Rd.iU ?_)⟩))))
      refine .inr ⟨_, rfl, (by walk_at "lg"), ?_⟩
      refine ⟨_, rfl, (by walk_at "sz"), ?_⟩
      unfold L2.tJs
      rw [Tf.shF_n n1 n2] at k
      exact k
    · skip
      refine ⟨_, (pss_cons (ps_if (pt_cmpR op_eq (pe_fld (pv 0) rfl) pe_int (nomark _)) (pss_one (ps_ret (pe_callTy call_str_int (by rfl) T.n_str (by decide +kernel) (pa_cons (pe_fld (pv 0) rfl) pa_nil)))) pss_nil)
      (pss_cons (ps_set (i := 1) sc_show_form.nd rfl (Or.inl rfl) (pe_call (ok_show_slope T) (hr.mono (by decide)) (by rfl) T.m_show_slope T.F_show_slope.kp T.b_show_slope .nil pass0 (pa_cons (pe_fld (pv 0) rfl) pa_nil)))
      (pss_cons (ps_if (pt_cmpR op_gt (pe_fld (pv 0) rfl) pe_int (nomark _)) (pss_one (ps_ret (pe_joined (L2.PJ.cons (pe_fmt (pv 1)) (L2.PJ.cons pe_str (L2.PJ.cons (pe_fmt (pe_fld (pv 0) rfl)) L2.PJ.nil)))))) pss_nil)
      (pss_cons (ps_if (pt_cmpR op_lt (pe_fld (pv 0) rfl) pe_int (nomark _)) (pss_one (ps_ret (pe_joined (L2.PJ.cons (pe_fmt (pv 1)) (L2.PJ.cons pe_str (L2.PJ.cons (pe_fmt (pe_un un_neg (pe_fld (pv 0) rfl))) L2.PJ.nil)))))) pss_nil)
      (pss_one (ps_ret (pv 1))))))), ?_⟩
      try dsimp only [L2.cxOf, L2.Cx.nox, L2.Cx.wish]
      with_reducible refine Rd.seq (Rd.ifS (Rd.test (Rd.op (Rd.fld (Rd.var (by walk_at "vr") (⟨_, _, _, _, _, rfl, (by walk_at "hp"), T.k_Form, T.n_Form_slope, (by walk_at "lk"), (Rd.c (Rd.eqS (by walk_at "vr") (Rd.bl (Rd.iteF (by walk_at "bF") (Rd.next ?_)))))⟩))))))
      with_reducible refine Rd.seq (Rd.asg (Rd.call (Rd.cons (Rd.fld (Rd.var (by walk_at "vr") (⟨_, _, _, _, _, rfl, (by walk_at "hp"), T.k_Form, T.n_Form_slope, (by walk_at "lk"), (Rd.nil ?_)⟩))))))
      refine ⟨_, rfl, (by walk_at "sc"), ?_⟩
      with_reducible refine Rd.name (Rd.seq (Rd.ifS (Rd.test (Rd.op (Rd.fld (Rd.var (by walk_at "vr") (⟨_, _, _, _, _, rfl, (by walk_at "hp"), T.k_Form, T.n_Form_base, (by walk_at "lk"), (Rd.c (Rd.i0 (Rd.bl (Rd.iteF (by walk_at "bF") ?_))))⟩)))))))
      with_reducible refine Rd.next (Rd.seq (Rd.ifS (Rd.test (Rd.op (Rd.fld (Rd.var (by walk_at "vr") (⟨_, _, _, _, _, rfl, (by walk_at "hp"), T.k_Form, T.n_Form_base, (by walk_at "lk"), (Rd.c (Rd.i0 (Rd.bl (Rd.iteF (by walk_at "bF") ?_))))⟩)))))))
      with_reducible refine Rd.next (Rd.ret (Rd.var (by walk_at "vr") ?_))
      rw [Tf.shF_z n1] at k
      exact k
/-! Form.read -/
theorem sc_Form_read : FnScope ["text", "form"] ["text"] (defScope s_Form_read) := ⟨rfl, rfl, rfl, by decide +kernel, rfl, by decide +kernel, by decide +kernel⟩
abbrev sp_Form_read (K : PySem.W.Frag) (A : Adr) : Sp := fun vs H Q _ => ∃ s b : Int, vs = [.str (Tf.shF s b)] ∧ (-10000000000000000000000000000000000000000 < s ∧ s < 10000000000000000000000000000000000000000) ∧ (-10000000000000000000000000000000000000000 < b ∧ b < 10000000000000000000000000000000000000000) ∧ ∀ (q dq : Addr) (H' : Hp), Same H H' → H' q = some (.ins A.c_Form dq (fF s b)) → Q (.ref q) H'
theorem ok_Form_read (T : Txt w K mg A) : FnOk P w K mg base CX0 5 A.f_Form_read A.d_Form_read ["text"] (sp_Form_read K A) := by
  refine T.F_Form_read.ok sc_Form_read (fun vs H Q E h => ?_) (fun cdv Ar outer s H vs Q E hr h => ?_)
  · obtain ⟨s, b, rfl, hs, hb, k⟩ := h
    rfl
  · obtain ⟨s, b, rfl, hs, hb, k⟩ := h
    have hu := hu_of hr
    have t_i_Form := T.i_Form
    have t_kt_Form_Form := T.kt_Form_Form
    have t_kt_int_Form := T.kt_int_Form
    have t_nf_Form_Form := T.nf_Form_Form
    have t_nf_int_Form := T.nf_int_Form
    have t_k_Form := T.k_Form
    have l1 : (Tf.shF s b).length ≤ 200 := Tf.shF_lenB (by omega) (by omega)
    have a1 : (!decide (V.str (Tf.shF s b) = V.str (Tf.shF s b))) = false := by rw [decide_eq_true rfl]; rfl
    refine ⟨_, (pss_cons (ps_if (pt_not (pt_val (pe_callB (Rd.isi (K := K) rfl) (by rfl) T.n_isinstance (by decide +kernel) (pa_cons (pv 0) (pa_cons (pe_bltn (v := .ty "str") (u := .type "str") (by rfl) T.n_str (by decide +kernel) rfl) pa_nil))))) (pss_one ps_never) pss_nil)
      (pss_cons (ps_set (i := 1) sc_Form_read.nd rfl (Or.inl rfl) (pe_call (ok_form_of_words T) (hr.mono (by decide)) (by rfl) T.m_form_of_words T.F_form_of_words.kp T.b_form_of_words .nil pass0 (pa_cons (pe_m1 PySem.F.slot_str_split PySem.F.type_str_split mt_split (pv 0) pe_str) pa_nil)))
      (pss_cons (ps_if (pt_cmpR op_ne (pe_call (ok_show_form T) (hr.mono (by decide)) (by rfl) T.m_show_form T.F_show_form.kp T.b_show_form .nil pass0 (pa_cons (pv 1) pa_nil)) (pv 0) (nomark _)) (pss_one ps_never) pss_nil)
      (pss_one (ps_ret (pv 1)))))), ?_⟩
    try dsimp only [L2.cxOf, L2.Cx.nox, L2.Cx.wish]
    with_reducible refine Rd.seq (Rd.ifS (Rd.not (Rd.tb (Rd.cB (Rd.cons (Rd.var (by walk_at "vr") (Rd.cons (Rd.c (Rd.nil ?_)))))))))
    refine ⟨_, _, _, _, _, rfl, (by walk_at "clsv"), (by walk_at "tyx"), (by walk_at "kit"), ?_⟩
    with_reducible refine Rd.bl (Rd.iteF (by first | with_unfolding_all rfl | walk_at "bF") (Rd.next (Rd.seq (Rd.asg (Rd.call (Rd.cons (Rd.m1 (Rd.var (by walk_at "vr") (⟨⟨_, rfl⟩, (Rd.c ?_)⟩)))))))))
    refine ⟨_, _, rfl, rfl, (by rfl), (by walk_at "sz"), fun sl1 nsl1 => ?_⟩
    rw [Tf.split_shF]
    with_reducible refine Rd.nil ?_
    refine ⟨_, _, _, rfl, (by walk_at "hp"), (by walk_at "sc"), (by walk_at "sc"), fun q1 dq1 H1 S1 r1 => ?_⟩
    with_reducible refine Rd.name (Rd.seq (Rd.ifS (Rd.test (Rd.op (Rd.call (Rd.cons (Rd.var (by walk_at "vr") (Rd.nil ?_))))))))
    refine ⟨_, _, _, _, rfl, (by walk_at "hp"), (by walk_at "sc"), (by walk_at "sc"), ?_⟩
    with_reducible refine Rd.var (by walk_at "vr") (Rd.neS (by walk_at "vr") (Rd.bl (Rd.iteF (by walk_at "bF") (Rd.next (Rd.ret (Rd.var (by walk_at "vr") ?_))))))
    exact k _ _ _ (by walk_at "frm") (by walk_at "hp")
/-! _law_source -/
theorem sc_l_source : FnScope ["_law_script", "_law_turn", "_law_cell", "_law_number", "_law_seed"] ["_law_script", "_law_turn"] (defScope s_l_source) := ⟨rfl, rfl, rfl, by decide +kernel, rfl, by decide +kernel, by decide +kernel⟩
abbrev sp_l_source (K : PySem.W.Frag) (A : Adr) : Sp := spSource K
theorem ok_l_source (T : Txt w K mg A) : FnOk P w K mg base CX0 1 A.f_l_source A.d_l_source ["_law_script", "_law_turn"] (sp_l_source K A) := by
  refine T.F_l_source.ok sc_l_source (fun vs H Q E h => ?_) (fun cdv Ar outer s H vs Q E hr h => ?_)
  · obtain ⟨a, ns, t, rfl, ha, ht, ht2, k⟩ := h
    rfl
  · obtain ⟨a, ns, t, rfl, ha, ht, ht2, k⟩ := h
    have hu := hu_of hr
    have t_i_Form := T.i_Form
    have t_kt_Form_Form := T.kt_Form_Form
    have t_kt_int_Form := T.kt_int_Form
    have t_nf_Form_Form := T.nf_Form_Form
    have t_nf_int_Form := T.nf_int_Form
    have t_k_Form := T.k_Form
    refine ⟨_, (pss_cons (ps_set (i := 2) sc_l_source.nd rfl (Or.inl rfl) pe_int)
      (pss_cons (ps_if (pt_cmpR op_lt (pv 1) (pe_callB call_len_seq (by rfl) T.n_len PySem.boot_len (pa_cons (pv 0) pa_nil)) (nomark _)) (pss_one (ps_set (i := 2) sc_l_source.nd rfl (Or.inl rfl) (pe_ix ix_list (pv 0) (pv 1) (fun _ _ => rfl)))) pss_nil)
      (pss_cons (ps_set (i := 3) sc_l_source.nd rfl (Or.inl rfl) (pe_callB call_abs (by rfl) T.n_abs (by decide +kernel) (pa_cons (pv 2) pa_nil)))
      (pss_cons (ps_set (i := 4) sc_l_source.nd rfl (Or.inl rfl) (pe_op op_mod (pe_callTy call_int1 (by rfl) T.n_int (by decide +kernel) (pa_cons (pe_op op_add (pe_op op_add (pe_op op_mulW (pe_op op_mod (pe_callTy call_int1 (by rfl) T.n_int (by decide +kernel) (pa_cons (pv 3) pa_nil)) pe_int) pe_int) (pe_op op_mulW pe_int (pv 1))) pe_int) pa_nil)) pe_int))
      (pss_cons (ps_if (pt_cmpR op_lt (pv 3) (pe_op op_pow pe_int pe_int) (nomark _)) (pss_one (ps_set (i := 3) sc_l_source.nd rfl (Or.inl rfl) pe_int)) pss_nil)
      (pss_one (ps_ret (pe_lst (pa_cons (pv 3) (pa_cons (pv 4) pa_nil)))))))))), ?_⟩
    try dsimp only [L2.cxOf, L2.Cx.nox, L2.Cx.wish]
    with_reducible refine Rd.seq (Rd.asg (Rd.c (Rd.name (Rd.seq (Rd.ifS (Rd.test (Rd.op (Rd.var (by walk_at "vr") (Rd.cB (Rd.cons (Rd.var (by walk_at "vr") ?_)))))))))))
    with_reducible refine Rd.nil (⟨_, _, rfl, (by walk_at "hpq"), (Rd.i0 (Rd.bl ?_))⟩)
    refine Rd.ite (fun h0 => ?_) (fun h0 => ?_)
    · try simp only [decide_eq_true_eq, Bool.not_eq_true', decide_eq_false_iff_not, Bool.not_eq_true, Bool.not_eq_eq_eq_not, Bool.not_true, Bool.not_false] at h0
      with_reducible refine Rd.asg (Rd.op (Rd.var (by walk_at "vr") (Rd.var (by walk_at "vr") ?_)))
      obtain ⟨z, hz⟩ := atI_map ht (by simpa using h0)
      refine Rd.ixL (by walk_at "hpl") hz ?_
      with_reducible refine Rd.name (Rd.seq (Rd.asg (Rd.cB (Rd.cons (Rd.var (by walk_at "vr") (Rd.nil (⟨_, rfl, (Rd.name (Rd.seq (Rd.asg (Rd.op ?_))))⟩)))))))
      with_reducible refine Rd.cB (Rd.cons (Rd.op (Rd.op (Rd.op (Rd.op (Rd.cB (Rd.cons (Rd.var (by walk_at "vr") (Rd.nil ((.inl ⟨_, rfl, (Rd.c ?_)⟩)))))))))))
      with_reducible refine Rd.iC (by walk_at "sc") (Rd.c (Rd.iC (by walk_at "scm") (Rd.op (Rd.c (Rd.var (by walk_at "vr") (Rd.iC (by walk_at "scm") (Rd.i0 (Rd.c (Rd.i0 (Rd.nil ((.inl ⟨_, rfl, ?_⟩))))))))))))
      with_reducible refine Rd.c (Rd.iC (by walk_at "sc") (Rd.name (Rd.seq (Rd.ifS (Rd.test (Rd.op (Rd.var (by walk_at "vr") (Rd.op (Rd.c (Rd.c (Rd.iC (by walk_at "scp") ?_)))))))))))
      with_reducible refine Rd.i0 (Rd.bl ?_)
      refine Rd.ite (fun h1 => ?_) (fun h1 => ?_)
      · try simp only [decide_eq_true_eq, Bool.not_eq_true', decide_eq_false_iff_not, Bool.not_eq_true, Bool.not_eq_eq_eq_not, Bool.not_true, Bool.not_false] at h1
        with_reducible refine Rd.asg (Rd.c (Rd.name (Rd.ret (Rd.lst (Rd.cons (Rd.var (by walk_at "vr") (Rd.cons (Rd.var (by walk_at "vr") (Rd.nil (Rd.laid (by walk_at "ll") ?_))))))))))
        intro p0 np0
        exact k _ _ np0 ⟨_, _, rfl, (by walk_at "sc"), (by walk_at "sc"), (by walk_at "sc")⟩
      · try simp only [decide_eq_true_eq, Bool.not_eq_true', decide_eq_false_iff_not, Bool.not_eq_true, Bool.not_eq_eq_eq_not, Bool.not_true, Bool.not_false, Int.not_lt, Int.not_le, Decidable.not_not] at h1
        with_reducible refine Rd.next (Rd.ret (Rd.lst (Rd.cons (Rd.var (by walk_at "vr") (Rd.cons (Rd.var (by walk_at "vr") (Rd.nil (Rd.laid (by walk_at "ll") ?_))))))))
        intro p0 np0
        exact k _ _ np0 ⟨_, _, rfl, (by walk_at "sc"), (by walk_at "sc"), (by walk_at "sc")⟩
    · try simp only [decide_eq_true_eq, Bool.not_eq_true', decide_eq_false_iff_not, Bool.not_eq_true, Bool.not_eq_eq_eq_not, Bool.not_true, Bool.not_false, Int.not_lt, Int.not_le, Decidable.not_not] at h0
      with_reducible refine Rd.next (Rd.seq (Rd.asg (Rd.cB (Rd.cons (Rd.var (by walk_at "vr") (Rd.nil (⟨_, rfl, (Rd.name (Rd.seq (Rd.asg (Rd.op ?_))))⟩)))))))
      with_reducible refine Rd.cB (Rd.cons (Rd.op (Rd.op (Rd.op (Rd.op (Rd.cB (Rd.cons (Rd.var (by walk_at "vr") (Rd.nil ((.inl ⟨_, rfl, (Rd.c ?_)⟩)))))))))))
      with_reducible refine Rd.iC (by walk_at "sc") (Rd.c (Rd.iC (by walk_at "scm") (Rd.op (Rd.c (Rd.var (by walk_at "vr") (Rd.iC (by walk_at "scm") (Rd.i0 (Rd.c (Rd.i0 (Rd.nil ((.inl ⟨_, rfl, ?_⟩))))))))))))
      with_reducible refine Rd.c (Rd.iC (by walk_at "sc") (Rd.name (Rd.seq (Rd.ifS (Rd.test (Rd.op (Rd.var (by walk_at "vr") (Rd.op (Rd.c (Rd.c (Rd.iC (by walk_at "scp") ?_)))))))))))
      with_reducible refine Rd.i0 (Rd.bl ?_)
      refine Rd.ite (fun h1 => ?_) (fun h1 => ?_)
      · try simp only [decide_eq_true_eq, Bool.not_eq_true', decide_eq_false_iff_not, Bool.not_eq_true, Bool.not_eq_eq_eq_not, Bool.not_true, Bool.not_false] at h1
        with_reducible refine Rd.asg (Rd.c (Rd.name (Rd.ret (Rd.lst (Rd.cons (Rd.var (by walk_at "vr") (Rd.cons (Rd.var (by walk_at "vr") (Rd.nil (Rd.laid (by walk_at "ll") ?_))))))))))
        intro p0 np0
        exact k _ _ np0 ⟨_, _, rfl, (by walk_at "sc"), (by walk_at "sc"), (by walk_at "sc")⟩
      · try simp only [decide_eq_true_eq, Bool.not_eq_true', decide_eq_false_iff_not, Bool.not_eq_true, Bool.not_eq_eq_eq_not, Bool.not_true, Bool.not_false, Int.not_lt, Int.not_le, Decidable.not_not] at h1
        with_reducible refine Rd.next (Rd.ret (Rd.lst (Rd.cons (Rd.var (by walk_at "vr") (Rd.cons (Rd.var (by walk_at "vr") (Rd.nil (Rd.laid (by walk_at "ll") ?_))))))))
        intro p0 np0
        exact k _ _ np0 ⟨_, _, rfl, (by walk_at "sc"), (by walk_at "sc"), (by walk_at "sc")⟩
/-! _law_draw -/
theorem sc_l_draw : FnScope ["_law_source_here", "_law_amount", "_law_digit", "_law_found"] ["_law_source_here", "_law_amount"] (defScope s_l_draw) := ⟨rfl, rfl, rfl, by decide +kernel, rfl, by decide +kernel, by decide +kernel⟩
abbrev sp_l_draw (K : PySem.W.Frag) (A : Adr) : Sp := spDraw
theorem ok_l_draw (T : Txt w K mg A) : FnOk P w K mg base CX0 1 A.f_l_draw A.d_l_draw ["_law_source_here", "_law_amount"] (sp_l_draw K A) := by
  refine T.F_l_draw.ok sc_l_draw (fun vs H Q E h => ?_) (fun cdv Ar outer s H vs Q E hr h => ?_)
  · obtain ⟨a, o, m, rfl, ha, ho, hm, hm2, k⟩ := h
    rfl
  · obtain ⟨a, o, m, rfl, ha, ho, hm, hm2, k⟩ := h
    have hu := hu_of hr
    have t_i_Form := T.i_Form
    have t_kt_Form_Form := T.kt_Form_Form
    have t_kt_int_Form := T.kt_int_Form
    have t_nf_Form_Form := T.nf_Form_Form
    have t_nf_int_Form := T.nf_int_Form
    have t_k_Form := T.k_Form
    obtain ⟨x, y, rfl, hx, hy, hy2⟩ := ho
    have e1 := Int.emod_nonneg x (show m ≠ 0 by first | omega | decide)
    have e2 := Int.emod_lt_of_pos x hm
    have e3 := Int.ediv_nonneg hx (show 0 ≤ m by first | omega | decide)
    refine ⟨_, (pss_cons (ps_if (pt_cmpR op_gt (pe_ix ix_list (pv 0) pe_int (fun _ _ => rfl)) pe_int (nomark _)) (pss_cons (ps_set (i := 2) sc_l_draw.nd rfl (Or.inl rfl) (pe_op op_mod (pe_callTy call_int1 (by rfl) T.n_int (by decide +kernel) (pa_cons (pe_ix ix_list (pv 0) pe_int (fun _ _ => rfl)) pa_nil)) (pv 1)))
      (pss_cons (ps_asg (pe_op op_fdivW (pe_ix ix_list (pv 0) pe_int (fun _ _ => rfl)) (pv 1)) (pg_sub (pv 0) pe_int set_list))
      (pss_one (ps_ret (pv 2))))) pss_nil)
      (pss_cons (ps_asg (pe_op op_mod (pe_callTy call_int1 (by rfl) T.n_int (by decide +kernel) (pa_cons (pe_op op_add (pe_op op_mulW (pe_ix ix_list (pv 0) pe_int (fun _ _ => rfl)) pe_int) pe_int) pa_nil)) pe_int) (pg_sub (pv 0) pe_int set_list))
      (pss_cons (ps_set (i := 3) sc_l_draw.nd rfl (Or.inl rfl) (pe_op op_fdivW (pe_op op_mod (pe_callTy call_int1 (by rfl) T.n_int (by decide +kernel) (pa_cons (pe_op op_mulW (pe_ix ix_list (pv 0) pe_int (fun _ _ => rfl)) (pe_ix ix_list (pv 0) pe_int (fun _ _ => rfl))) pa_nil)) pe_int) pe_int))
      (pss_cons (ps_if (pt_cmpR op_gt (pv 1) (pe_op op_pow pe_int pe_int) (nomark _)) (pss_cons (ps_asg (pe_op op_mod (pe_callTy call_int1 (by rfl) T.n_int (by decide +kernel) (pa_cons (pe_op op_add (pe_op op_mulW (pe_ix ix_list (pv 0) pe_int (fun _ _ => rfl)) pe_int) pe_int) pa_nil)) pe_int) (pg_sub (pv 0) pe_int set_list))
      (pss_one (ps_set (i := 3) sc_l_draw.nd rfl (Or.inl rfl) (pe_op op_add (pe_op op_mulW (pv 3) pe_int) (pe_op op_fdivW (pe_op op_mod (pe_callTy call_int1 (by rfl) T.n_int (by decide +kernel) (pa_cons (pe_op op_mulW (pe_ix ix_list (pv 0) pe_int (fun _ _ => rfl)) (pe_ix ix_list (pv 0) pe_int (fun _ _ => rfl))) pa_nil)) pe_int) pe_int))))) pss_nil)
      (pss_one (ps_ret (pe_op op_mod (pe_callTy call_int1 (by rfl) T.n_int (by decide +kernel) (pa_cons (pv 3) pa_nil)) (pv 1)))))))), ?_⟩
    try dsimp only [L2.cxOf, L2.Cx.nox, L2.Cx.wish]
    with_reducible refine Rd.seq (Rd.ifS (Rd.test (Rd.op (Rd.op (Rd.var (by walk_at "vr") (Rd.c (Rd.ixL (by walk_at "hpl") (by walk_at "vr") (Rd.c (Rd.i0 (Rd.bl ?_))))))))))
    refine Rd.ite (fun h0 => ?_) (fun h0 => ?_)
    · try simp only [decide_eq_true_eq, Bool.not_eq_true', decide_eq_false_iff_not, Bool.not_eq_true, Bool.not_eq_eq_eq_not, Bool.not_true, Bool.not_false] at h0
      with_reducible refine Rd.seq (Rd.asg (Rd.op (Rd.cB (Rd.cons (Rd.op (Rd.var (by walk_at "vr") (Rd.c (Rd.ixL (by walk_at "hpl") (by walk_at "vr") (Rd.nil ((.inl ⟨_, rfl, (Rd.var (by walk_at "vr") ?_)⟩)))))))))))
      with_reducible refine Rd.iC (by walk_at "sc") (Rd.name (Rd.seq (Rd.asg (Rd.op (Rd.op (Rd.var (by walk_at "vr") (Rd.c (Rd.ixL (by walk_at "hpl") (by walk_at "vr") (Rd.var (by walk_at "vr") (Rd.iC (by walk_at "scd") (Rd.sub ?_)))))))))))
      with_reducible refine Rd.var (by walk_at "vr") (Rd.c (Rd.setL (by walk_at "hp") (by walk_at "ixn") (Rd.ret (Rd.var (by walk_at "vr") ?_))))
      exact k _ _ (by walk_at "sc") (by walk_at "sc") ⟨_, _, rfl, (by walk_at "sc"), (by walk_at "sc"), (by walk_at "sc")⟩
    · try simp only [decide_eq_true_eq, Bool.not_eq_true', decide_eq_false_iff_not, Bool.not_eq_true, Bool.not_eq_eq_eq_not, Bool.not_true, Bool.not_false, Int.not_lt, Int.not_le, Decidable.not_not] at h0
      with_reducible refine Rd.next (Rd.seq (Rd.asg (Rd.op (Rd.cB (Rd.cons (Rd.op (Rd.op (Rd.op (Rd.var (by walk_at "vr") (Rd.c (Rd.ixL (by walk_at "hpl") (by walk_at "vr") ?_)))))))))))
      with_reducible refine Rd.c (Rd.iC (by walk_at "scm") (Rd.c (Rd.i0 (Rd.nil ((.inl ⟨_, rfl, (Rd.c (Rd.iC (by walk_at "sc") (Rd.sub (Rd.var (by walk_at "vr") (Rd.c (Rd.setL (by walk_at "hp") (by walk_at "ixn") ?_))))))⟩))))))
      with_reducible refine Rd.seq (Rd.asg (Rd.op (Rd.op (Rd.cB (Rd.cons (Rd.op (Rd.op (Rd.var (by walk_at "vr") (Rd.c (Rd.ixL (by walk_at "hpl") (by walk_at "vr") (Rd.op ?_)))))))))))
      with_reducible refine Rd.var (by walk_at "vr") (Rd.c (Rd.ixL (by walk_at "hpl") (by walk_at "vr") (Rd.iC (by walk_at "scm") (Rd.nil ((.inl ⟨_, rfl, (Rd.c (Rd.iC (by walk_at "sc") (Rd.c (Rd.iC (by walk_at "scd") (Rd.name (Rd.seq ?_))))))⟩))))))
      with_reducible refine Rd.ifS (Rd.test (Rd.op (Rd.var (by walk_at "vr") (Rd.op (Rd.c (Rd.c (Rd.iC (by walk_at "scp") (Rd.i0 (Rd.bl ?_)))))))))
      refine Rd.ite (fun h1 => ?_) (fun h1 => ?_)
      · try simp only [decide_eq_true_eq, Bool.not_eq_true', decide_eq_false_iff_not, Bool.not_eq_true, Bool.not_eq_eq_eq_not, Bool.not_true, Bool.not_false] at h1
        with_reducible refine Rd.seq (Rd.asg (Rd.op (Rd.cB (Rd.cons (Rd.op (Rd.op (Rd.op (Rd.var (by walk_at "vr") (Rd.c (Rd.ixL (by walk_at "hpl") (by walk_at "vr") (Rd.c ?_)))))))))))
        with_reducible refine Rd.iC (by walk_at "scm") (Rd.c (Rd.i0 (Rd.nil ((.inl ⟨_, rfl, (Rd.c (Rd.iC (by walk_at "sc") (Rd.sub (Rd.var (by walk_at "vr") (Rd.c (Rd.setL (by walk_at "hp") (by walk_at "ixn") (Rd.asg ?_)))))))⟩)))))
        with_reducible refine Rd.op (Rd.op (Rd.var (by walk_at "vr") (Rd.c (Rd.iC (by walk_at "scm") (Rd.op (Rd.op (Rd.cB (Rd.cons (Rd.op (Rd.op (Rd.var (by walk_at "vr") ?_)))))))))))
        with_reducible refine Rd.c (Rd.ixL (by walk_at "hpl") (by walk_at "vr") (Rd.op (Rd.var (by walk_at "vr") (Rd.c (Rd.ixL (by walk_at "hpl") (by walk_at "vr") (Rd.iC (by walk_at "scm") (Rd.nil ((.inl ⟨_, rfl, (Rd.c (Rd.iC (by walk_at "sc") (Rd.c ?_)))⟩)))))))))
        with_reducible refine Rd.iC (by walk_at "scd") (Rd.i0 (Rd.name (Rd.ret (Rd.op (Rd.cB (Rd.cons (Rd.var (by walk_at "vr") (Rd.nil ((.inl ⟨_, rfl, (Rd.var (by walk_at "vr") (Rd.iC (by walk_at "sc") ?_))⟩))))))))))
        (repeat rw [L2.upd_upd])
        exact k _ _ (Int.emod_nonneg _ (by first | omega | decide)) (Int.emod_lt_of_pos _ hm) ⟨_, _, rfl, hx, (by first | omega | decide), (by first | omega | decide)⟩
      · try simp only [decide_eq_true_eq, Bool.not_eq_true', decide_eq_false_iff_not, Bool.not_eq_true, Bool.not_eq_eq_eq_not, Bool.not_true, Bool.not_false, Int.not_lt, Int.not_le, Decidable.not_not] at h1
        with_reducible refine Rd.next (Rd.ret (Rd.op (Rd.cB (Rd.cons (Rd.var (by walk_at "vr") (Rd.nil ((.inl ⟨_, rfl, (Rd.var (by walk_at "vr") (Rd.iC (by walk_at "sc") ?_))⟩))))))))
        (repeat rw [L2.upd_upd])
        exact k _ _ (Int.emod_nonneg _ (by first | omega | decide)) (Int.emod_lt_of_pos _ hm) ⟨_, _, rfl, hx, (by first | omega | decide), (by first | omega | decide)⟩
/-! _law_form -/
theorem sc_l_form : FnScope ["_law_source_here", "_law_most", "_law_slope"] ["_law_source_here"] (defScope s_l_form) := ⟨rfl, rfl, rfl, by decide +kernel, rfl, by decide +kernel, by decide +kernel⟩
abbrev sp_l_form (K : PySem.W.Frag) (A : Adr) : Sp := fun vs H Q _ => ∃ (a : Addr) (o : HO), vs = [.ref a] ∧ H a = some o ∧ SrcO o ∧ ∀ (p : Addr) (s b : Int) (o' : HO) (H' : Hp), Frm a H H' → H' a = some o' → SrcO o' → H p = none → H' p = some (.tup [.int s, .int b]) → (-(2 ^ 105) < s ∧ s < 2 ^ 105) → (-(2 ^ 105) < b ∧ b < 2 ^ 105) → Q (.ref p) H'
theorem ok_l_form (T : Txt w K mg A) : FnOk P w K mg base CX0 2 A.f_l_form A.d_l_form ["_law_source_here"] (sp_l_form K A) := by
  refine T.F_l_form.ok sc_l_form (fun vs H Q E h => ?_) (fun cdv Ar outer s H vs Q E hr h => ?_)
  · obtain ⟨a, o, rfl, ha, ho, k⟩ := h
    rfl
  · obtain ⟨a, o, rfl, ha, ho, k⟩ := h
    have hu := hu_of hr
    have t_i_Form := T.i_Form
    have t_kt_Form_Form := T.kt_Form_Form
    have t_kt_int_Form := T.kt_int_Form
    have t_nf_Form_Form := T.nf_Form_Form
    have t_nf_int_Form := T.nf_int_Form
    have t_k_Form := T.k_Form
    refine ⟨_, (pss_cons (ps_set (i := 1) sc_l_form.nd rfl (Or.inl rfl) (pe_ix ix_list (pe_lst (pa_cons pe_int (pa_cons pe_int (pa_cons (pe_op op_pow pe_int pe_int) (pa_cons (pe_op op_pow pe_int pe_int) pa_nil))))) (pe_call (ok_l_draw T) (hr.mono (by decide)) (by rfl) T.m_l_draw T.F_l_draw.kp T.b_l_draw .nil pass0 (pa_cons (pv 0) (pa_cons pe_int pa_nil))) (fun _ _ => rfl)))
      (pss_cons (ps_set (i := 2) sc_l_form.nd rfl (Or.inl rfl) (pe_op op_mulW (pe_call (ok_l_draw T) (hr.mono (by decide)) (by rfl) T.m_l_draw T.F_l_draw.kp T.b_l_draw .nil pass0 (pa_cons (pv 0) (pa_cons (pe_op op_add (pv 1) pe_int) pa_nil))) (pe_ix ix_list (pe_lst (pa_cons pe_int (pa_cons (pe_un un_neg pe_int) pa_nil))) (pe_call (ok_l_draw T) (hr.mono (by decide)) (by rfl) T.m_l_draw T.F_l_draw.kp T.b_l_draw .nil pass0 (pa_cons (pv 0) (pa_cons pe_int pa_nil))) (fun _ _ => rfl))))
      (pss_cons (ps_set (i := 1) sc_l_form.nd rfl (Or.inl rfl) (pe_ix ix_list (pe_lst (pa_cons pe_int (pa_cons pe_int (pa_cons (pe_op op_pow pe_int pe_int) (pa_cons (pe_op op_pow pe_int pe_int) pa_nil))))) (pe_call (ok_l_draw T) (hr.mono (by decide)) (by rfl) T.m_l_draw T.F_l_draw.kp T.b_l_draw .nil pass0 (pa_cons (pv 0) (pa_cons pe_int pa_nil))) (fun _ _ => rfl)))
      (pss_one (ps_ret (pe_tup (pa_cons (pv 2) (pa_cons (pe_op op_mulW (pe_call (ok_l_draw T) (hr.mono (by decide)) (by rfl) T.m_l_draw T.F_l_draw.kp T.b_l_draw .nil pass0 (pa_cons (pv 0) (pa_cons (pe_op op_add (pv 1) pe_int) pa_nil))) (pe_ix ix_list (pe_lst (pa_cons pe_int (pa_cons (pe_un un_neg pe_int) pa_nil))) (pe_call (ok_l_draw T) (hr.mono (by decide)) (by rfl) T.m_l_draw T.F_l_draw.kp T.b_l_draw .nil pass0 (pa_cons (pv 0) (pa_cons pe_int pa_nil))) (fun _ _ => rfl))) pa_nil)))))))), ?_⟩
    try dsimp only [L2.cxOf, L2.Cx.nox, L2.Cx.wish]
    with_reducible refine Rd.seq (Rd.asg (Rd.op (Rd.lst (Rd.cons (Rd.c (Rd.cons (Rd.c (Rd.cons (Rd.op (Rd.c (Rd.c ?_)))))))))))
    with_reducible refine Rd.iC (by walk_at "scp") (Rd.cons (Rd.op (Rd.c (Rd.c (Rd.iC (by walk_at "scp") (Rd.nil (Rd.laid (by walk_at "ll") ?_)))))))
    intro p0 np0
    with_reducible refine Rd.call (Rd.cons (Rd.var (by walk_at "vr") (Rd.cons (Rd.c (Rd.nil ?_)))))
    refine ⟨_, _, _, rfl, (by walk_at "hp"), (by walk_at "sc"), (by walk_at "sc"), (by walk_at "sc"), fun d1 o1 d1a d1b s1 => ?_⟩
    refine Rd.pick (ns := [3, 30, 1000000, 1000000000000000000000000000000]) (lo := 3) (hi := 1000000000000000000000000000000) (by decide) (by walk_at "hpl") (by walk_at "vr") (by walk_at "sc") (by show (_ : Int) < 4; walk_at "sc") (fun n_0 m_0 na_0 nb_0 => ?_)
    with_reducible refine Rd.name (Rd.seq (Rd.asg (Rd.op (Rd.call (Rd.cons (Rd.var (by walk_at "vr") (Rd.cons (Rd.op (Rd.var (by walk_at "vr") (Rd.c (Rd.i0 ?_)))))))))))
    with_reducible refine Rd.nil ?_
    refine ⟨_, _, _, rfl, (by walk_at "hp"), (by walk_at "sc"), (by walk_at "sc"), (by walk_at "sc"), fun d2 o2 d2a d2b s2 => ?_⟩
    with_reducible refine Rd.op (Rd.lst (Rd.cons (Rd.c (Rd.cons (Rd.un (Rd.c (Rd.iU (Rd.nil (Rd.laid (by walk_at "ll") ?_)))))))))
    intro p1 np1
    with_reducible refine Rd.call (Rd.cons (Rd.var (by walk_at "vr") (Rd.cons (Rd.c (Rd.nil ?_)))))
    refine ⟨_, _, _, rfl, (by walk_at "hp"), (by walk_at "sc"), (by walk_at "sc"), (by walk_at "sc"), fun d3 o3 d3a d3b s3 => ?_⟩
    refine Rd.pick (ns := [1, -1]) (lo := -1) (hi := 1) (by decide) (by walk_at "hpl") (by walk_at "vr") (by walk_at "sc") (by show (_ : Int) < 2; walk_at "sc") (fun n_1 m_1 na_1 nb_1 => ?_)
    with_reducible refine Rd.iC (by walk_at "scm") (Rd.name ?_)
    have sg1 := Rd.sgn d2a d2b m_1
    generalize d2 * n_1 = sl at sg1 ⊢
    with_reducible refine Rd.seq (Rd.asg (Rd.op (Rd.lst (Rd.cons (Rd.c (Rd.cons (Rd.c (Rd.cons (Rd.op (Rd.c (Rd.c ?_)))))))))))
    with_reducible refine Rd.iC (by walk_at "scp") (Rd.cons (Rd.op (Rd.c (Rd.c (Rd.iC (by walk_at "scp") (Rd.nil (Rd.laid (by walk_at "ll") ?_)))))))
    intro p2 np2
    with_reducible refine Rd.call (Rd.cons (Rd.var (by walk_at "vr") (Rd.cons (Rd.c (Rd.nil ?_)))))
    refine ⟨_, _, _, rfl, (by walk_at "hp"), (by walk_at "sc"), (by walk_at "sc"), (by walk_at "sc"), fun d4 o4 d4a d4b s4 => ?_⟩
    refine Rd.pick (ns := [3, 30, 1000000, 1000000000000000000000000000000]) (lo := 3) (hi := 1000000000000000000000000000000) (by decide) (by walk_at "hpl") (by walk_at "vr") (by walk_at "sc") (by show (_ : Int) < 4; walk_at "sc") (fun n_2 m_2 na_2 nb_2 => ?_)
    with_reducible refine Rd.name (Rd.ret (Rd.tup (Rd.cons (Rd.var (by walk_at "vr") (Rd.cons (Rd.op (Rd.call (Rd.cons (Rd.var (by walk_at "vr") (Rd.cons (Rd.op ?_)))))))))))
    with_reducible refine Rd.var (by walk_at "vr") (Rd.c (Rd.i0 (Rd.nil ?_)))
    refine ⟨_, _, _, rfl, (by walk_at "hp"), (by walk_at "sc"), (by walk_at "sc"), (by walk_at "sc"), fun d5 o5 d5a d5b s5 => ?_⟩
    with_reducible refine Rd.op (Rd.lst (Rd.cons (Rd.c (Rd.cons (Rd.un (Rd.c (Rd.iU (Rd.nil (Rd.laid (by walk_at "ll") ?_)))))))))
    intro p4 np4
    with_reducible refine Rd.call (Rd.cons (Rd.var (by walk_at "vr") (Rd.cons (Rd.c (Rd.nil ?_)))))
    refine ⟨_, _, _, rfl, (by walk_at "hp"), (by walk_at "sc"), (by walk_at "sc"), (by walk_at "sc"), fun d6 o6 d6a d6b s6 => ?_⟩
    refine Rd.pick (ns := [1, -1]) (lo := -1) (hi := 1) (by decide) (by walk_at "hpl") (by walk_at "vr") (by walk_at "sc") (by show (_ : Int) < 2; walk_at "sc") (fun n_3 m_3 na_3 nb_3 => ?_)
    with_reducible refine Rd.iC (by walk_at "scm") (Rd.nil (Rd.laid (by walk_at "ll") ?_))
    intro p3 np3
    have sg2 := Rd.sgn d5a d5b m_3
    exact k _ _ _ _ _ (by walk_at "frm") (by walk_at "hp") (by walk_at "sc") (by walk_at "nn") L2.upd_same (by walk_at "sc") (by walk_at "sc")
/-! _law_alike -/
theorem sc_l_alike : FnScope ["_law_a", "_law_b", "_law_c", "_law_k"] ["_law_a", "_law_b", "_law_c", "_law_k"] (defScope s_l_alike) := ⟨rfl, rfl, rfl, by decide +kernel, rfl, by decide +kernel, by decide +kernel⟩
abbrev sp_l_alike (K : PySem.W.Frag) (A : Adr) : Sp := fun vs H Q _ => ∃ (p1 d1 p2 d2 p3 d3 : Addr) (s1 b1 s2 b2 s3 b3 n : Int), vs = [.ref p1, .ref p2, .ref p3, .int n] ∧ (H p1 = some (.ins A.c_Form d1 (fF s1 b1)) ∧ H p2 = some (.ins A.c_Form d2 (fF s2 b2)) ∧ H p3 = some (.ins A.c_Form d3 (fF s3 b3)) ∧ (-(2 ^ 105) < s1 ∧ s1 < 2 ^ 105) ∧ (-(2 ^ 105) < b1 ∧ b1 < 2 ^ 105) ∧ (-(2 ^ 105) < s2 ∧ s2 < 2 ^ 105) ∧ (-(2 ^ 105) < b2 ∧ b2 < 2 ^ 105) ∧ (-(2 ^ 105) < s3 ∧ s3 < 2 ^ 105) ∧ (-(2 ^ 105) < b3 ∧ b3 < 2 ^ 105) ∧ (-(2 ^ 105) < n ∧ n < 2 ^ 105)) ∧ ∀ H', Same H H' → Q (.bl true) H'
theorem ok_l_alike (T : Txt w K mg A) : FnOk P w K mg base CX0 7 A.f_l_alike A.d_l_alike ["_law_a", "_law_b", "_law_c", "_law_k"] (sp_l_alike K A) := by
  refine T.F_l_alike.ok sc_l_alike (fun vs H Q E h => ?_) (fun cdv Ar outer s H vs Q E hr h => ?_)
  · obtain ⟨p1, d1, p2, d2, p3, d3, s1, b1, s2, b2, s3, b3, n, rfl, ⟨hp1, hp2, hp3, hs1, hb1, hs2, hb2, hs3, hb3, hn⟩, k⟩ := h
    rfl
  · obtain ⟨p1, d1, p2, d2, p3, d3, s1, b1, s2, b2, s3, b3, n, rfl, ⟨hp1, hp2, hp3, hs1, hb1, hs2, hb2, hs3, hb3, hn⟩, k⟩ := h
    have hu := hu_of hr
    have t_i_Form := T.i_Form
    have t_kt_Form_Form := T.kt_Form_Form
    have t_kt_int_Form := T.kt_int_Form
    have t_nf_Form_Form := T.nf_Form_Form
    have t_nf_int_Form := T.nf_int_Form
    have t_k_Form := T.k_Form
    refine ⟨_, (pss_cons (ps_if (PW.pt (pw_or (pt_cmpR (Own.ne (ok_Formu__equ_ T) (hr.mono (by decide)) T.O_Formu__equ__N T.b_Formu__equ_ pass0) (pe_op (Own.opS (op := .Add) (ok_Formu__addu_ T) (hr.mono (by decide)) T.O_Formu__addu__S T.b_Formu__addu_ pass0) (pv 0) (pv 1)) (pe_op (Own.opS (op := .Add) (ok_Formu__addu_ T) (hr.mono (by decide)) T.O_Formu__addu__S T.b_Formu__addu_ pass0) (pv 1) (pv 0)) (nomark _)) (pw_or1 (pt_cmpR (Own.ne (ok_Formu__equ_ T) (hr.mono (by decide)) T.O_Formu__equ__N T.b_Formu__equ_ pass0) (pe_op (Own.opS (op := .Add) (ok_Formu__addu_ T) (hr.mono (by decide)) T.O_Formu__addu__S T.b_Formu__addu_ pass0) (pe_op (Own.opS (op := .Add) (ok_Formu__addu_ T) (hr.mono (by decide)) T.O_Formu__addu__S T.b_Formu__addu_ pass0) (pv 0) (pv 1)) (pv 2)) (pe_op (Own.opS (op := .Add) (ok_Formu__addu_ T) (hr.mono (by decide)) T.O_Formu__addu__S T.b_Formu__addu_ pass0) (pv 0) (pe_op (Own.opS (op := .Add) (ok_Formu__addu_ T) (hr.mono (by decide)) T.O_Formu__addu__S T.b_Formu__addu_ pass0) (pv 1) (pv 2))) (nomark _))))) (pss_one (ps_ret pe_bl)) pss_nil)
      (pss_cons (ps_if (PW.pt (pw_or (pt_cmpR (Own.ne (ok_Formu__equ_ T) (hr.mono (by decide)) T.O_Formu__equ__N T.b_Formu__equ_ pass0) (pe_op (Own.opS (op := .Sub) (ok_Formu__subu_ T) (hr.mono (by decide)) T.O_Formu__subu__S T.b_Formu__subu_ pass0) (pe_op (Own.opS (op := .Add) (ok_Formu__addu_ T) (hr.mono (by decide)) T.O_Formu__addu__S T.b_Formu__addu_ pass0) (pv 0) (pv 1)) (pv 1)) (pv 0) (nomark _)) (pw_or1 (pt_cmpR (Own.ne (ok_Formu__equ_ T) (hr.mono (by decide)) T.O_Formu__equ__N T.b_Formu__equ_ pass0) (pe_op (Own.opS (op := .Add) (ok_Formu__addu_ T) (hr.mono (by decide)) T.O_Formu__addu__S T.b_Formu__addu_ pass0) (pe_op (Own.opS (op := .Sub) (ok_Formu__subu_ T) (hr.mono (by decide)) T.O_Formu__subu__S T.b_Formu__subu_ pass0) (pv 0) (pv 1)) (pv 1)) (pv 0) (nomark _))))) (pss_one (ps_ret pe_bl)) pss_nil)
      (pss_cons (ps_if (pt_cmpR (Own.ne (ok_Formu__equ_ T) (hr.mono (by decide)) T.O_Formu__equ__N T.b_Formu__equ_ pass0) (pe_op (Own.opRmul (ok_Formu__rmulu_ T) (hr.mono (by decide)) T.O_Formu__rmulu__R T.b_Formu__rmulu_ pass0) (pv 3) (pe_op (Own.opS (op := .Add) (ok_Formu__addu_ T) (hr.mono (by decide)) T.O_Formu__addu__S T.b_Formu__addu_ pass0) (pv 0) (pv 1))) (pe_op (Own.opS (op := .Add) (ok_Formu__addu_ T) (hr.mono (by decide)) T.O_Formu__addu__S T.b_Formu__addu_ pass0) (pe_op (Own.opRmul (ok_Formu__rmulu_ T) (hr.mono (by decide)) T.O_Formu__rmulu__R T.b_Formu__rmulu_ pass0) (pv 3) (pv 0)) (pe_op (Own.opRmul (ok_Formu__rmulu_ T) (hr.mono (by decide)) T.O_Formu__rmulu__R T.b_Formu__rmulu_ pass0) (pv 3) (pv 1))) (nomark _)) (pss_one (ps_ret pe_bl)) pss_nil)
      (pss_cons (ps_if (PW.pt (pw_or (pt_cmpR (Own.ne (ok_Formu__equ_ T) (hr.mono (by decide)) T.O_Formu__equ__N T.b_Formu__equ_ pass0) (pe_op (Own.opT (op := .Mult) (ok_Formu__mulu_ T) (hr.mono (by decide)) T.O_Formu__mulu__T T.b_Formu__mulu_ pass0) (pe_op (Own.opS (op := .Add) (ok_Formu__addu_ T) (hr.mono (by decide)) T.O_Formu__addu__S T.b_Formu__addu_ pass0) (pv 0) (pv 1)) (pv 3)) (pe_op (Own.opS (op := .Add) (ok_Formu__addu_ T) (hr.mono (by decide)) T.O_Formu__addu__S T.b_Formu__addu_ pass0) (pe_op (Own.opT (op := .Mult) (ok_Formu__mulu_ T) (hr.mono (by decide)) T.O_Formu__mulu__T T.b_Formu__mulu_ pass0) (pv 1) (pv 3)) (pe_op (Own.opT (op := .Mult) (ok_Formu__mulu_ T) (hr.mono (by decide)) T.O_Formu__mulu__T T.b_Formu__mulu_ pass0) (pv 0) (pv 3))) (nomark _)) (pw_or1 (pt_cmpR (Own.ne (ok_Formu__equ_ T) (hr.mono (by decide)) T.O_Formu__equ__N T.b_Formu__equ_ pass0) (pe_un (Own.neg (ok_Formu__negu_ T) (hr.mono (by decide)) T.O_Formu__negu__1 T.b_Formu__negu_ pass0) (pe_un (Own.neg (ok_Formu__negu_ T) (hr.mono (by decide)) T.O_Formu__negu__1 T.b_Formu__negu_ pass0) (pv 0))) (pv 0) (nomark _))))) (pss_one (ps_ret pe_bl)) pss_nil)
      (pss_cons (ps_if (pt_cmpR (Own.ne (ok_Formu__equ_ T) (hr.mono (by decide)) T.O_Formu__equ__N T.b_Formu__equ_ pass0) (pe_un (Own.neg (ok_Formu__negu_ T) (hr.mono (by decide)) T.O_Formu__negu__1 T.b_Formu__negu_ pass0) (pe_op (Own.opS (op := .Sub) (ok_Formu__subu_ T) (hr.mono (by decide)) T.O_Formu__subu__S T.b_Formu__subu_ pass0) (pv 0) (pv 1))) (pe_op (Own.opS (op := .Sub) (ok_Formu__subu_ T) (hr.mono (by decide)) T.O_Formu__subu__S T.b_Formu__subu_ pass0) (pv 1) (pv 0)) (nomark _)) (pss_one (ps_ret pe_bl)) pss_nil)
      (pss_one (ps_ret (pe_and (pe_cmpR (Own.cmp (cop := .Eq) (ok_Formu__equ_ T) (hr.mono (by decide)) T.O_Formu__equ__1 T.b_Formu__equ_ pass0) (pe_op (Own.opS (op := .Sub) (ok_Formu__subu_ T) (hr.mono (by decide)) T.O_Formu__subu__S T.b_Formu__subu_ pass0) (pv 0) (pv 0)) (pe_make T.K_Form (ok_Formu__initu_ T) (hr.mono (by decide)) (by rfl) T.m_Form T.b_Formu__initu_ .nil pass0 (pa_cons pe_int (pa_cons pe_int pa_nil))) (nomark _)) (pe_and (pe_cmpR (Own.cmp (cop := .Eq) (ok_Formu__equ_ T) (hr.mono (by decide)) T.O_Formu__equ__1 T.b_Formu__equ_ pass0) (pe_op (Own.opT (op := .Add) (ok_Formu__addu_ T) (hr.mono (by decide)) T.O_Formu__addu__T T.b_Formu__addu_ pass0) (pv 0) pe_int) (pv 0) (nomark _)) (pe_and (pe_cmpR (Own.cmp (cop := .Eq) (ok_Formu__equ_ T) (hr.mono (by decide)) T.O_Formu__equ__1 T.b_Formu__equ_ pass0) (pe_op (Own.opRsub (ok_Formu__rsubu_ T) (hr.mono (by decide)) T.O_Formu__rsubu__R T.b_Formu__rsubu_ pass0) pe_int (pv 0)) (pe_un (Own.neg (ok_Formu__negu_ T) (hr.mono (by decide)) T.O_Formu__negu__1 T.b_Formu__negu_ pass0) (pv 0)) (nomark _)) (pe_and (pe_cmpR (Own.cmp (cop := .Eq) (ok_Formu__equ_ T) (hr.mono (by decide)) T.O_Formu__equ__1 T.b_Formu__equ_ pass0) (pe_op (Own.opT (op := .Mult) (ok_Formu__mulu_ T) (hr.mono (by decide)) T.O_Formu__mulu__T T.b_Formu__mulu_ pass0) (pv 0) pe_int) (pe_make T.K_Form (ok_Formu__initu_ T) (hr.mono (by decide)) (by rfl) T.m_Form T.b_Formu__initu_ .nil pass0 (pa_cons pe_int (pa_cons pe_int pa_nil))) (nomark _)) (pe_one (pe_cmpR (Own.cmp (cop := .Eq) (ok_Formu__equ_ T) (hr.mono (by decide)) T.O_Formu__equ__1 T.b_Formu__equ_ pass0) (pe_op (Own.opRmul (ok_Formu__rmulu_ T) (hr.mono (by decide)) T.O_Formu__rmulu__R T.b_Formu__rmulu_ pass0) pe_int (pv 0)) (pv 0) (nomark _)))))))))))))), ?_⟩
    try dsimp only [L2.cxOf, L2.Cx.nox, L2.Cx.wish]
    with_reducible refine Rd.seq (Rd.ifS (Rd.or (Rd.test (Rd.op (Rd.op (Rd.var (by walk_at "vr") (Rd.var (by walk_at "vr") (Own.opS2 (by walk_at "hp") (by walk_at "hp") ?_))))))))
    refine ⟨_, _, _, _, _, _, _, rfl, (by walk_at "hp"), (by walk_at "argf"), fun q1 dq1 H1 S1 r1 => ?_⟩
    with_reducible refine Rd.op (Rd.var (by walk_at "vr") (Rd.var (by walk_at "vr") (Own.opS2 (by walk_at "hp") (by walk_at "hp") ?_)))
    refine ⟨_, _, _, _, _, _, _, rfl, (by walk_at "hp"), (by walk_at "argf"), fun q2 dq2 H2 S2 r2 => ?_⟩
    with_reducible refine Own.ne2 (by walk_at "hp") (by walk_at "tyx") (by walk_at "nf") ?_
    refine ⟨_, _, _, _, _, rfl, (by walk_at "hp"), .inl ⟨_, _, _, _, rfl, (by walk_at "hp"), ?_⟩⟩
    refine ⟨_, rfl, ?_⟩
    with_reducible refine Rd.bl (Rd.iteF (by walk_at "bF") (Rd.test (Rd.op (Rd.op (Rd.op (Rd.var (by walk_at "vr") (Rd.var (by walk_at "vr") (Own.opS2 (by walk_at "hp") (by walk_at "hp") ?_))))))))
    refine ⟨_, _, _, _, _, _, _, rfl, (by walk_at "hp"), (by walk_at "argf"), fun q4 dq4 H4 S4 r4 => ?_⟩
    with_reducible refine Rd.var (by walk_at "vr") (Own.opS2 (by walk_at "hp") (by walk_at "hp") ?_)
    refine ⟨_, _, _, _, _, _, _, rfl, (by walk_at "hp"), (by walk_at "argf"), fun q5 dq5 H5 S5 r5 => ?_⟩
    with_reducible refine Rd.op (Rd.var (by walk_at "vr") (Rd.op (Rd.var (by walk_at "vr") (Rd.var (by walk_at "vr") (Own.opS2 (by walk_at "hp") (by walk_at "hp") ?_)))))
    refine ⟨_, _, _, _, _, _, _, rfl, (by walk_at "hp"), (by walk_at "argf"), fun q6 dq6 H6 S6 r6 => ?_⟩
    with_reducible refine Own.opS2 (by walk_at "hp") (by walk_at "hp") ?_
    refine ⟨_, _, _, _, _, _, _, rfl, (by walk_at "hp"), (by walk_at "argf"), fun q7 dq7 H7 S7 r7 => ?_⟩
    with_reducible refine Own.ne2 (by walk_at "hp") (by walk_at "tyx") (by walk_at "nf") ?_
    refine ⟨_, _, _, _, _, rfl, (by walk_at "hp"), .inl ⟨_, _, _, _, rfl, (by walk_at "hp"), ?_⟩⟩
    refine ⟨_, rfl, ?_⟩
    with_reducible refine Rd.bl (Rd.iteF (by walk_at "bF") (Rd.next (Rd.seq (Rd.ifS (Rd.or (Rd.test (Rd.op (Rd.op (Rd.op (Rd.var (by walk_at "vr") (Rd.var (by walk_at "vr") ?_)))))))))))
    with_reducible refine Own.opS2 (by walk_at "hp") (by walk_at "hp") ?_
    refine ⟨_, _, _, _, _, _, _, rfl, (by walk_at "hp"), (by walk_at "argf"), fun q9 dq9 H9 S9 r9 => ?_⟩
    with_reducible refine Rd.var (by walk_at "vr") (Own.opS2 (by walk_at "hp") (by walk_at "hp") ?_)
    refine ⟨_, _, _, _, _, _, _, rfl, (by walk_at "hp"), (by walk_at "argf"), fun q10 dq10 H10 S10 r10 => ?_⟩
    with_reducible refine Rd.var (by walk_at "vr") (Own.ne2 (by walk_at "hp") (by walk_at "tyx") (by walk_at "nf") ?_)
    refine ⟨_, _, _, _, _, rfl, (by walk_at "hp"), .inl ⟨_, _, _, _, rfl, (by walk_at "hp"), ?_⟩⟩
    refine ⟨_, rfl, ?_⟩
    with_reducible refine Rd.bl (Rd.iteF (by walk_at "bF") (Rd.test (Rd.op (Rd.op (Rd.op (Rd.var (by walk_at "vr") (Rd.var (by walk_at "vr") (Own.opS2 (by walk_at "hp") (by walk_at "hp") ?_))))))))
    refine ⟨_, _, _, _, _, _, _, rfl, (by walk_at "hp"), (by walk_at "argf"), fun q12 dq12 H12 S12 r12 => ?_⟩
    with_reducible refine Rd.var (by walk_at "vr") (Own.opS2 (by walk_at "hp") (by walk_at "hp") ?_)
    refine ⟨_, _, _, _, _, _, _, rfl, (by walk_at "hp"), (by walk_at "argf"), fun q13 dq13 H13 S13 r13 => ?_⟩
    with_reducible refine Rd.var (by walk_at "vr") (Own.ne2 (by walk_at "hp") (by walk_at "tyx") (by walk_at "nf") ?_)
    refine ⟨_, _, _, _, _, rfl, (by walk_at "hp"), .inl ⟨_, _, _, _, rfl, (by walk_at "hp"), ?_⟩⟩
    refine ⟨_, rfl, ?_⟩
    with_reducible refine Rd.bl (Rd.iteF (by walk_at "bF") (Rd.next (Rd.seq (Rd.ifS (Rd.test (Rd.op (Rd.op (Rd.var (by walk_at "vr") (Rd.op (Rd.var (by walk_at "vr") (Rd.var (by walk_at "vr") ?_)))))))))))
    with_reducible refine Own.opS2 (by walk_at "hp") (by walk_at "hp") ?_
    refine ⟨_, _, _, _, _, _, _, rfl, (by walk_at "hp"), (by walk_at "argf"), fun q15 dq15 H15 S15 r15 => ?_⟩
    with_reducible refine Own.opR2 (by walk_at "hp") ?_
    refine ⟨_, _, _, _, _, rfl, (by walk_at "hp"), (by walk_at "sc"), (by walk_at "sc"), (by walk_at "sc"), fun q16 dq16 H16 S16 r16 => ?_⟩
    with_reducible refine Rd.op (Rd.op (Rd.var (by walk_at "vr") (Rd.var (by walk_at "vr") (Own.opR2 (by walk_at "hp") ?_))))
    refine ⟨_, _, _, _, _, rfl, (by walk_at "hp"), (by walk_at "sc"), (by walk_at "sc"), (by walk_at "sc"), fun q17 dq17 H17 S17 r17 => ?_⟩
    with_reducible refine Rd.op (Rd.var (by walk_at "vr") (Rd.var (by walk_at "vr") (Own.opR2 (by walk_at "hp") ?_)))
    refine ⟨_, _, _, _, _, rfl, (by walk_at "hp"), (by walk_at "sc"), (by walk_at "sc"), (by walk_at "sc"), fun q18 dq18 H18 S18 r18 => ?_⟩
    with_reducible refine Own.opS2 (by walk_at "hp") (by walk_at "hp") ?_
    refine ⟨_, _, _, _, _, _, _, rfl, (by walk_at "hp"), (by walk_at "argf"), fun q19 dq19 H19 S19 r19 => ?_⟩
    with_reducible refine Own.ne2 (by walk_at "hp") (by walk_at "tyx") (by walk_at "nf") ?_
    refine ⟨_, _, _, _, _, rfl, (by walk_at "hp"), .inl ⟨_, _, _, _, rfl, (by walk_at "hp"), ?_⟩⟩
    refine ⟨_, rfl, ?_⟩
    with_reducible refine Rd.bl (Rd.iteF (by walk_at "bF") (Rd.next (Rd.seq (Rd.ifS (Rd.or (Rd.test (Rd.op (Rd.op (Rd.op (Rd.var (by walk_at "vr") (Rd.var (by walk_at "vr") ?_)))))))))))
    with_reducible refine Own.opS2 (by walk_at "hp") (by walk_at "hp") ?_
    refine ⟨_, _, _, _, _, _, _, rfl, (by walk_at "hp"), (by walk_at "argf"), fun q21 dq21 H21 S21 r21 => ?_⟩
    with_reducible refine Rd.var (by walk_at "vr") (Own.opT2 (by walk_at "hp") (by walk_at "ty0") ?_)
    refine ⟨_, _, _, _, _, rfl, (by walk_at "hp"), (by walk_at "sc"), (by walk_at "sc"), (by walk_at "sc"), fun q22 dq22 H22 S22 r22 => ?_⟩
    with_reducible refine Rd.op (Rd.op (Rd.var (by walk_at "vr") (Rd.var (by walk_at "vr") (Own.opT2 (by walk_at "hp") (by walk_at "ty0") ?_))))
    refine ⟨_, _, _, _, _, rfl, (by walk_at "hp"), (by walk_at "sc"), (by walk_at "sc"), (by walk_at "sc"), fun q23 dq23 H23 S23 r23 => ?_⟩
    with_reducible refine Rd.op (Rd.var (by walk_at "vr") (Rd.var (by walk_at "vr") (Own.opT2 (by walk_at "hp") (by walk_at "ty0") ?_)))
    refine ⟨_, _, _, _, _, rfl, (by walk_at "hp"), (by walk_at "sc"), (by walk_at "sc"), (by walk_at "sc"), fun q24 dq24 H24 S24 r24 => ?_⟩
    with_reducible refine Own.opS2 (by walk_at "hp") (by walk_at "hp") ?_
    refine ⟨_, _, _, _, _, _, _, rfl, (by walk_at "hp"), (by walk_at "argf"), fun q25 dq25 H25 S25 r25 => ?_⟩
    with_reducible refine Own.ne2 (by walk_at "hp") (by walk_at "tyx") (by walk_at "nf") ?_
    refine ⟨_, _, _, _, _, rfl, (by walk_at "hp"), .inl ⟨_, _, _, _, rfl, (by walk_at "hp"), ?_⟩⟩
    refine ⟨_, rfl, ?_⟩
    with_reducible refine Rd.bl (Rd.iteF (by walk_at "bF") (Rd.test (Rd.op (Rd.un (Rd.un (Rd.var (by walk_at "vr") (Own.neg2 (by walk_at "hp") ?_)))))))
    refine ⟨_, _, _, _, rfl, (by walk_at "hp"), fun q27 dq27 H27 S27 r27 => ?_⟩
    with_reducible refine Own.neg2 (by walk_at "hp") ?_
    refine ⟨_, _, _, _, rfl, (by walk_at "hp"), fun q28 dq28 H28 S28 r28 => ?_⟩
    with_reducible refine Rd.var (by walk_at "vr") (Own.ne2 (by walk_at "hp") (by walk_at "tyx") (by walk_at "nf") ?_)
    refine ⟨_, _, _, _, _, rfl, (by walk_at "hp"), .inl ⟨_, _, _, _, rfl, (by walk_at "hp"), ?_⟩⟩
    refine ⟨_, rfl, ?_⟩
    with_reducible refine Rd.bl (Rd.iteF (by walk_at "bF") (Rd.next (Rd.seq (Rd.ifS (Rd.test (Rd.op (Rd.un (Rd.op (Rd.var (by walk_at "vr") (Rd.var (by walk_at "vr") (Own.opS2 (by walk_at "hp") (by walk_at "hp") ?_)))))))))))
    refine ⟨_, _, _, _, _, _, _, rfl, (by walk_at "hp"), (by walk_at "argf"), fun q30 dq30 H30 S30 r30 => ?_⟩
    with_reducible refine Own.neg2 (by walk_at "hp") ?_
    refine ⟨_, _, _, _, rfl, (by walk_at "hp"), fun q31 dq31 H31 S31 r31 => ?_⟩
    with_reducible refine Rd.op (Rd.var (by walk_at "vr") (Rd.var (by walk_at "vr") (Own.opS2 (by walk_at "hp") (by walk_at "hp") ?_)))
    refine ⟨_, _, _, _, _, _, _, rfl, (by walk_at "hp"), (by walk_at "argf"), fun q32 dq32 H32 S32 r32 => ?_⟩
    with_reducible refine Own.ne2 (by walk_at "hp") (by walk_at "tyx") (by walk_at "nf") ?_
    refine ⟨_, _, _, _, _, rfl, (by walk_at "hp"), .inl ⟨_, _, _, _, rfl, (by walk_at "hp"), ?_⟩⟩
    refine ⟨_, rfl, ?_⟩
    with_reducible refine Rd.bl (Rd.iteF (by walk_at "bF") (Rd.next (Rd.ret (Rd.andV (Rd.op (Rd.op (Rd.var (by walk_at "vr") (Rd.var (by walk_at "vr") (Own.opS2 (by walk_at "hp") (by walk_at "hp") ?_)))))))))
    refine ⟨_, _, _, _, _, _, _, rfl, (by walk_at "hp"), (by walk_at "argf"), fun q34 dq34 H34 S34 r34 => ?_⟩
    with_reducible refine Rd.make (Rd.cons (Rd.c (Rd.cons (Rd.c (Rd.nil ?_)))))
    intro x35 dx35 nx35 ndx35 ne35
    refine ⟨_, _, _, _, rfl, L2.upd_same, ?_⟩
    refine ⟨rfl, ?_⟩
    rw [L2.upd_upd]
    with_reducible refine Own.cmp2 (by walk_at "hp") (by walk_at "tyx") (by walk_at "nf") ?_
    refine ⟨_, _, _, _, _, rfl, (by walk_at "hp"), .inl ⟨_, _, _, _, rfl, (by walk_at "hp"), ?_⟩⟩
    with_reducible refine Rd.bl (Rd.iteT (by walk_at "bT") (Rd.andV (Rd.op (Rd.op (Rd.var (by walk_at "vr") (Rd.c (Own.opT2 (by walk_at "hp") (by walk_at "ty0") ?_)))))))
    refine ⟨_, _, _, _, _, _, _, rfl, (by walk_at "hp"), (by walk_at "argf"), fun q37 dq37 H37 S37 r37 => ?_⟩
    with_reducible refine Rd.var (by walk_at "vr") (Own.cmp2 (by walk_at "hp") (by walk_at "tyx") (by walk_at "nf") ?_)
    refine ⟨_, _, _, _, _, rfl, (by walk_at "hp"), .inl ⟨_, _, _, _, rfl, (by walk_at "hp"), ?_⟩⟩
    with_reducible refine Rd.bl (Rd.iteT (by walk_at "bT") (Rd.andV (Rd.op (Rd.op (Rd.c (Rd.var (by walk_at "vr") (Own.opR2 (by walk_at "hp") ?_)))))))
    refine ⟨_, _, _, _, _, rfl, (by walk_at "hp"), fun q39 dq39 H39 S39 r39 => ?_⟩
    with_reducible refine Rd.un (Rd.var (by walk_at "vr") (Own.neg2 (by walk_at "hp") ?_))
    refine ⟨_, _, _, _, rfl, (by walk_at "hp"), fun q40 dq40 H40 S40 r40 => ?_⟩
    with_reducible refine Own.cmp2 (by walk_at "hp") (by walk_at "tyx") (by walk_at "nf") ?_
    refine ⟨_, _, _, _, _, rfl, (by walk_at "hp"), .inl ⟨_, _, _, _, rfl, (by walk_at "hp"), ?_⟩⟩
    with_reducible refine Rd.bl (Rd.iteT (by walk_at "bT") (Rd.andV (Rd.op (Rd.op (Rd.var (by walk_at "vr") (Rd.c (Own.opT2 (by walk_at "hp") (by walk_at "ty0") ?_)))))))
    refine ⟨_, _, _, _, _, rfl, (by walk_at "hp"), (by walk_at "sc"), (by walk_at "sc"), (by walk_at "sc"), fun q42 dq42 H42 S42 r42 => ?_⟩
    with_reducible refine Rd.make (Rd.cons (Rd.c (Rd.cons (Rd.c (Rd.nil ?_)))))
    intro x43 dx43 nx43 ndx43 ne43
    refine ⟨_, _, _, _, rfl, L2.upd_same, ?_⟩
    refine ⟨rfl, ?_⟩
    rw [L2.upd_upd]
    with_reducible refine Own.cmp2 (by walk_at "hp") (by walk_at "tyx") (by walk_at "nf") ?_
    refine ⟨_, _, _, _, _, rfl, (by walk_at "hp"), .inl ⟨_, _, _, _, rfl, (by walk_at "hp"), ?_⟩⟩
    with_reducible refine Rd.bl (Rd.iteT (by walk_at "bT") (Rd.op (Rd.op (Rd.c (Rd.var (by walk_at "vr") (Own.opR2 (by walk_at "hp") ?_))))))
    refine ⟨_, _, _, _, _, rfl, (by walk_at "hp"), (by walk_at "sc"), (by walk_at "sc"), (by walk_at "sc"), fun q45 dq45 H45 S45 r45 => ?_⟩
    with_reducible refine Rd.var (by walk_at "vr") (Own.cmp2 (by walk_at "hp") (by walk_at "tyx") (by walk_at "nf") ?_)
    refine ⟨_, _, _, _, _, rfl, (by walk_at "hp"), .inl ⟨_, _, _, _, rfl, (by walk_at "hp"), ?_⟩⟩
    first | exact k _ (by walk_at "frm") | exact Rd.truB (by walk_at "bT") (k _ (by walk_at "frm"))
/-! _law_ordered -/
theorem sc_l_ordered : FnScope ["_law_a", "_law_b", "_law_c", "_law_k", "_law_step"] ["_law_a", "_law_b", "_law_c", "_law_k"] (defScope s_l_ordered) := ⟨rfl, rfl, rfl, by decide +kernel, rfl, by decide +kernel, by decide +kernel⟩
abbrev sp_l_ordered (K : PySem.W.Frag) (A : Adr) : Sp := fun vs H Q _ => ∃ (p1 d1 p2 d2 p3 d3 : Addr) (s1 b1 s2 b2 s3 b3 n : Int), vs = [.ref p1, .ref p2, .ref p3, .int n] ∧ (H p1 = some (.ins A.c_Form d1 (fF s1 b1)) ∧ H p2 = some (.ins A.c_Form d2 (fF s2 b2)) ∧ H p3 = some (.ins A.c_Form d3 (fF s3 b3)) ∧ (-(2 ^ 105) < s1 ∧ s1 < 2 ^ 105) ∧ (-(2 ^ 105) < b1 ∧ b1 < 2 ^ 105) ∧ (-(2 ^ 105) < s2 ∧ s2 < 2 ^ 105) ∧ (-(2 ^ 105) < b2 ∧ b2 < 2 ^ 105) ∧ (-(2 ^ 105) < s3 ∧ s3 < 2 ^ 105) ∧ (-(2 ^ 105) < b3 ∧ b3 < 2 ^ 105) ∧ (-(2 ^ 105) < n ∧ n < 2 ^ 105)) ∧ ∀ H', Same H H' → Q (.bl true) H'
theorem ok_l_ordered (T : Txt w K mg A) : FnOk P w K mg base CX0 6 A.f_l_ordered A.d_l_ordered ["_law_a", "_law_b", "_law_c", "_law_k"] (sp_l_ordered K A) := by
  refine T.F_l_ordered.ok sc_l_ordered (fun vs H Q E h => ?_) (fun cdv Ar outer s H vs Q E hr h => ?_)
  · obtain ⟨p1, d1, p2, d2, p3, d3, s1, b1, s2, b2, s3, b3, n, rfl, ⟨hp1, hp2, hp3, hs1, hb1, hs2, hb2, hs3, hb3, hn⟩, k⟩ := h
    rfl
  · obtain ⟨p1, d1, p2, d2, p3, d3, s1, b1, s2, b2, s3, b3, n, rfl, ⟨hp1, hp2, hp3, hs1, hb1, hs2, hb2, hs3, hb3, hn⟩, k⟩ := h
    have hu := hu_of hr
    have t_i_Form := T.i_Form
    have t_kt_Form_Form := T.kt_Form_Form
    have t_kt_int_Form := T.kt_int_Form
    have t_nf_Form_Form := T.nf_Form_Form
    have t_nf_int_Form := T.nf_int_Form
    have t_k_Form := T.k_Form
    have c1 := Rd.tri s1 b1 s2 b2
    refine ⟨_, (pss_cons (ps_if (pt_cmpR op_ne (pe_bm PySem.F.plainAttrs_list PySem.F.slot_list_count PySem.F.type_list_count Cnt.mt_countB (pe_lst (pa_cons (pe_cmpR (Own.cmp (cop := .Lt) (ok_Formu__ltu_ T) (hr.mono (by decide)) T.O_Formu__ltu__1 T.b_Formu__ltu_ pass0) (pv 0) (pv 1) (nomark _)) (pa_cons (pe_cmpR (Own.cmp (cop := .Eq) (ok_Formu__equ_ T) (hr.mono (by decide)) T.O_Formu__equ__1 T.b_Formu__equ_ pass0) (pv 0) (pv 1) (nomark _)) (pa_cons (pe_cmpR (Own.cmp (cop := .Lt) (ok_Formu__ltu_ T) (hr.mono (by decide)) T.O_Formu__ltu__1 T.b_Formu__ltu_ pass0) (pv 1) (pv 0) (nomark _)) pa_nil)))) (pa_cons pe_bl pa_nil)) pe_int (nomark _)) (pss_one (ps_ret pe_bl)) pss_nil)
      (pss_cons (ps_if (PW.pt (pw_or (pt_cmpR op_ne (pe_cmpR (Own.cmp (cop := .LtE) (ok_Formu__leu_ T) (hr.mono (by decide)) T.O_Formu__leu__1 T.b_Formu__leu_ pass0) (pv 0) (pv 1) (nomark _)) (pe_not (pe_cmpR (Own.cmp (cop := .Lt) (ok_Formu__ltu_ T) (hr.mono (by decide)) T.O_Formu__ltu__1 T.b_Formu__ltu_ pass0) (pv 1) (pv 0) (nomark _))) (nomark _)) (pw_or1 (pt_cmpR op_ne (pe_cmpR (Own.cmp (cop := .Gt) (ok_Formu__gtu_ T) (hr.mono (by decide)) T.O_Formu__gtu__1 T.b_Formu__gtu_ pass0) (pv 0) (pv 1) (nomark _)) (pe_cmpR (Own.cmp (cop := .Lt) (ok_Formu__ltu_ T) (hr.mono (by decide)) T.O_Formu__ltu__1 T.b_Formu__ltu_ pass0) (pv 1) (pv 0) (nomark _)) (nomark _))))) (pss_one (ps_ret pe_bl)) pss_nil)
      (pss_cons (ps_if (PW.pt (pw_or (pt_cmpR op_ne (pe_cmpR (Own.cmp (cop := .Lt) (ok_Formu__ltu_ T) (hr.mono (by decide)) T.O_Formu__ltu__1 T.b_Formu__ltu_ pass0) (pe_op (Own.opS (op := .Add) (ok_Formu__addu_ T) (hr.mono (by decide)) T.O_Formu__addu__S T.b_Formu__addu_ pass0) (pv 0) (pv 2)) (pe_op (Own.opS (op := .Add) (ok_Formu__addu_ T) (hr.mono (by decide)) T.O_Formu__addu__S T.b_Formu__addu_ pass0) (pv 1) (pv 2)) (nomark _)) (pe_cmpR (Own.cmp (cop := .Lt) (ok_Formu__ltu_ T) (hr.mono (by decide)) T.O_Formu__ltu__1 T.b_Formu__ltu_ pass0) (pv 0) (pv 1) (nomark _)) (nomark _)) (pw_or1 (pt_cmpR op_ne (pe_cmpR (Own.cmp (cop := .Lt) (ok_Formu__ltu_ T) (hr.mono (by decide)) T.O_Formu__ltu__1 T.b_Formu__ltu_ pass0) (pe_un (Own.neg (ok_Formu__negu_ T) (hr.mono (by decide)) T.O_Formu__negu__1 T.b_Formu__negu_ pass0) (pv 1)) (pe_un (Own.neg (ok_Formu__negu_ T) (hr.mono (by decide)) T.O_Formu__negu__1 T.b_Formu__negu_ pass0) (pv 0)) (nomark _)) (pe_cmpR (Own.cmp (cop := .Lt) (ok_Formu__ltu_ T) (hr.mono (by decide)) T.O_Formu__ltu__1 T.b_Formu__ltu_ pass0) (pv 0) (pv 1) (nomark _)) (nomark _))))) (pss_one (ps_ret pe_bl)) pss_nil)
      (pss_cons (ps_if (pt_cmpR op_ne (pe_cmpR (Own.cmp (cop := .Lt) (ok_Formu__ltu_ T) (hr.mono (by decide)) T.O_Formu__ltu__1 T.b_Formu__ltu_ pass0) (pe_op (Own.opT (op := .Add) (ok_Formu__addu_ T) (hr.mono (by decide)) T.O_Formu__addu__T T.b_Formu__addu_ pass0) (pv 0) (pv 3)) (pe_op (Own.opT (op := .Add) (ok_Formu__addu_ T) (hr.mono (by decide)) T.O_Formu__addu__T T.b_Formu__addu_ pass0) (pv 1) (pv 3)) (nomark _)) (pe_cmpR (Own.cmp (cop := .Lt) (ok_Formu__ltu_ T) (hr.mono (by decide)) T.O_Formu__ltu__1 T.b_Formu__ltu_ pass0) (pv 0) (pv 1) (nomark _)) (nomark _)) (pss_one (ps_ret pe_bl)) pss_nil)
      (pss_cons (ps_if (PW.pt (pw_or (PW.pt (pw_and (pt_cmpR (Own.cmp (cop := .Lt) (ok_Formu__ltu_ T) (hr.mono (by decide)) T.O_Formu__ltu__1 T.b_Formu__ltu_ pass0) (pv 0) (pv 1) (nomark _)) (pw_and (pt_cmpR (Own.cmp (cop := .Lt) (ok_Formu__ltu_ T) (hr.mono (by decide)) T.O_Formu__ltu__1 T.b_Formu__ltu_ pass0) (pv 1) (pv 2) (nomark _)) (pw_and1 (pt_not (pt_cmpR (Own.cmp (cop := .Lt) (ok_Formu__ltu_ T) (hr.mono (by decide)) T.O_Formu__ltu__1 T.b_Formu__ltu_ pass0) (pv 0) (pv 2) (nomark _))))))) (pw_or1 (pt_cmpR op_ne (pe_cmpR (Own.cmp (cop := .GtE) (ok_Formu__geu_ T) (hr.mono (by decide)) T.O_Formu__geu__1 T.b_Formu__geu_ pass0) (pv 0) (pv 1) (nomark _)) (pe_cmpR (Own.cmp (cop := .LtE) (ok_Formu__leu_ T) (hr.mono (by decide)) T.O_Formu__leu__1 T.b_Formu__leu_ pass0) (pv 1) (pv 0) (nomark _)) (nomark _))))) (pss_one (ps_ret pe_bl)) pss_nil)
      (pss_cons (ps_set (i := 4) sc_l_ordered.nd rfl (Or.inl rfl) (pe_op op_add (pe_callB call_abs (by rfl) T.n_abs (by decide +kernel) (pa_cons (pv 3) pa_nil)) pe_int))
      (pss_one (ps_ret (pe_and (pe_cmpR op_eq (pe_cmpR (Own.cmp (cop := .Lt) (ok_Formu__ltu_ T) (hr.mono (by decide)) T.O_Formu__ltu__1 T.b_Formu__ltu_ pass0) (pe_op (Own.opT (op := .Mult) (ok_Formu__mulu_ T) (hr.mono (by decide)) T.O_Formu__mulu__T T.b_Formu__mulu_ pass0) (pv 0) (pv 4)) (pe_op (Own.opT (op := .Mult) (ok_Formu__mulu_ T) (hr.mono (by decide)) T.O_Formu__mulu__T T.b_Formu__mulu_ pass0) (pv 1) (pv 4)) (nomark _)) (pe_cmpR (Own.cmp (cop := .Lt) (ok_Formu__ltu_ T) (hr.mono (by decide)) T.O_Formu__ltu__1 T.b_Formu__ltu_ pass0) (pv 0) (pv 1) (nomark _)) (nomark _)) (pe_one (pe_cmpR op_eq (pe_cmpR (Own.cmp (cop := .Lt) (ok_Formu__ltu_ T) (hr.mono (by decide)) T.O_Formu__ltu__1 T.b_Formu__ltu_ pass0) (pe_op (Own.opT (op := .Mult) (ok_Formu__mulu_ T) (hr.mono (by decide)) T.O_Formu__mulu__T T.b_Formu__mulu_ pass0) (pv 0) (pe_op op_sub pe_int (pv 4))) (pe_op (Own.opT (op := .Mult) (ok_Formu__mulu_ T) (hr.mono (by decide)) T.O_Formu__mulu__T T.b_Formu__mulu_ pass0) (pv 1) (pe_op op_sub pe_int (pv 4))) (nomark _)) (pe_cmpR (Own.cmp (cop := .Lt) (ok_Formu__ltu_ T) (hr.mono (by decide)) T.O_Formu__ltu__1 T.b_Formu__ltu_ pass0) (pv 1) (pv 0) (nomark _)) (nomark _)))))))))))), ?_⟩
    try dsimp only [L2.cxOf, L2.Cx.nox, L2.Cx.wish]
    with_reducible refine Rd.seq (Rd.ifS (Rd.test (Rd.op ?_)))
    unfold tBM
    with_reducible refine Rd.lst (Rd.cons (Rd.op (Rd.var (by walk_at "vr") (Rd.var (by walk_at "vr") (Own.cmp2 (by walk_at "hp") (by walk_at "tyx") (by walk_at "nf") ?_)))))
    refine ⟨_, _, _, _, _, _, _, _, rfl, (by walk_at "hp"), (by walk_at "hp"), fun H1 S1 => ?_⟩
    with_reducible refine Rd.cons (Rd.op (Rd.var (by walk_at "vr") (Rd.var (by walk_at "vr") (Own.cmp2 (by walk_at "hp") (by walk_at "tyx") (by walk_at "nf") ?_))))
    refine ⟨_, _, _, _, _, rfl, (by walk_at "hp"), .inl ⟨_, _, _, _, rfl, (by walk_at "hp"), ?_⟩⟩
    with_reducible refine Rd.cons (Rd.op (Rd.var (by walk_at "vr") (Rd.var (by walk_at "vr") (Own.cmp2 (by walk_at "hp") (by walk_at "tyx") (by walk_at "nf") ?_))))
    refine ⟨_, _, _, _, _, _, _, _, rfl, (by walk_at "hp"), (by walk_at "hp"), fun H3 S3 => ?_⟩
    with_reducible refine Rd.nil (Rd.laid (by walk_at "ll") ?_)
    intro p0 np0
    refine ⟨Or.inl ⟨rfl, _, (by walk_at "hpl")⟩, ?_⟩
    with_reducible refine Rd.cons (Rd.c (Rd.nil ?_))
    refine Rd.cnt3 (by walk_at "hpl") ?_
    with_reducible refine Rd.c (Rd.neS (by walk_at "vr") (Rd.bl (Rd.iteF (by walk_at "bF") (Rd.next (Rd.seq (Rd.ifS (Rd.or (Rd.test (Rd.op (Rd.op (Rd.var (by walk_at "vr") ?_)))))))))))
    with_reducible refine Rd.var (by walk_at "vr") (Own.cmp2 (by walk_at "hp") (by walk_at "tyx") (by walk_at "nf") ?_)
    refine ⟨_, _, _, _, _, _, _, _, rfl, (by walk_at "hp"), (by walk_at "hp"), fun H4 S4 => ?_⟩
    with_reducible refine Rd.notV (Rd.op (Rd.var (by walk_at "vr") (Rd.var (by walk_at "vr") (Own.cmp2 (by walk_at "hp") (by walk_at "tyx") (by walk_at "nf") ?_))))
    refine ⟨_, _, _, _, _, _, _, _, rfl, (by walk_at "hp"), (by walk_at "hp"), fun H5 S5 => ?_⟩
    with_reducible refine Rd.bl (Rd.neS (by walk_at "vr") (Rd.bl (Rd.iteF (by walk_at "bF") (Rd.test (Rd.op (Rd.op (Rd.var (by walk_at "vr") (Rd.var (by walk_at "vr") (Own.cmp2 (by walk_at "hp") (by walk_at "tyx") (by walk_at "nf") ?_)))))))))
    refine ⟨_, _, _, _, _, _, _, _, rfl, (by walk_at "hp"), (by walk_at "hp"), fun H6 S6 => ?_⟩
    with_reducible refine Rd.op (Rd.var (by walk_at "vr") (Rd.var (by walk_at "vr") (Own.cmp2 (by walk_at "hp") (by walk_at "tyx") (by walk_at "nf") ?_)))
    refine ⟨_, _, _, _, _, _, _, _, rfl, (by walk_at "hp"), (by walk_at "hp"), fun H7 S7 => ?_⟩
    with_reducible refine Rd.neS (by walk_at "vr") (Rd.bl (Rd.iteF (by walk_at "bF") (Rd.next (Rd.seq (Rd.ifS (Rd.or (Rd.test (Rd.op (Rd.op (Rd.op (Rd.var (by walk_at "vr") ?_)))))))))))
    with_reducible refine Rd.var (by walk_at "vr") (Own.opS2 (by walk_at "hp") (by walk_at "hp") ?_)
    refine ⟨_, _, _, _, _, _, _, rfl, (by walk_at "hp"), (by walk_at "argf"), fun q8 dq8 H8 S8 r8 => ?_⟩
    with_reducible refine Rd.op (Rd.var (by walk_at "vr") (Rd.var (by walk_at "vr") (Own.opS2 (by walk_at "hp") (by walk_at "hp") ?_)))
    refine ⟨_, _, _, _, _, _, _, rfl, (by walk_at "hp"), (by walk_at "argf"), fun q9 dq9 H9 S9 r9 => ?_⟩
    with_reducible refine Own.cmp2 (by walk_at "hp") (by walk_at "tyx") (by walk_at "nf") ?_
    refine ⟨_, _, _, _, _, _, _, _, rfl, (by walk_at "hp"), (by walk_at "hp"), fun H10 S10 => ?_⟩
    with_reducible refine Rd.op (Rd.var (by walk_at "vr") (Rd.var (by walk_at "vr") (Own.cmp2 (by walk_at "hp") (by walk_at "tyx") (by walk_at "nf") ?_)))
    refine ⟨_, _, _, _, _, _, _, _, rfl, (by walk_at "hp"), (by walk_at "hp"), fun H11 S11 => ?_⟩
    with_reducible refine Rd.neS (by walk_at "vr") (Rd.bl (Rd.iteF (by walk_at "bF") (Rd.test (Rd.op (Rd.op (Rd.un (Rd.var (by walk_at "vr") (Own.neg2 (by walk_at "hp") ?_))))))))
    refine ⟨_, _, _, _, rfl, (by walk_at "hp"), fun q12 dq12 H12 S12 r12 => ?_⟩
    with_reducible refine Rd.un (Rd.var (by walk_at "vr") (Own.neg2 (by walk_at "hp") ?_))
    refine ⟨_, _, _, _, rfl, (by walk_at "hp"), fun q13 dq13 H13 S13 r13 => ?_⟩
    with_reducible refine Own.cmp2 (by walk_at "hp") (by walk_at "tyx") (by walk_at "nf") ?_
    refine ⟨_, _, _, _, _, _, _, _, rfl, (by walk_at "hp"), (by walk_at "hp"), fun H14 S14 => ?_⟩
    with_reducible refine Rd.op (Rd.var (by walk_at "vr") (Rd.var (by walk_at "vr") (Own.cmp2 (by walk_at "hp") (by walk_at "tyx") (by walk_at "nf") ?_)))
    refine ⟨_, _, _, _, _, _, _, _, rfl, (by walk_at "hp"), (by walk_at "hp"), fun H15 S15 => ?_⟩
    with_reducible refine Rd.neS (by walk_at "vr") (Rd.bl (Rd.iteF (by walk_at "bF") (Rd.next (Rd.seq (Rd.ifS (Rd.test (Rd.op (Rd.op (Rd.op (Rd.var (by walk_at "vr") (Rd.var (by walk_at "vr") ?_)))))))))))
    with_reducible refine Own.opT2 (by walk_at "hp") (by walk_at "ty0") ?_
    refine ⟨_, _, _, _, _, _, _, rfl, (by walk_at "hp"), (by walk_at "argf"), fun q16 dq16 H16 S16 r16 => ?_⟩
    with_reducible refine Rd.op (Rd.var (by walk_at "vr") (Rd.var (by walk_at "vr") (Own.opT2 (by walk_at "hp") (by walk_at "ty0") ?_)))
    refine ⟨_, _, _, _, _, _, _, rfl, (by walk_at "hp"), (by walk_at "argf"), fun q17 dq17 H17 S17 r17 => ?_⟩
    with_reducible refine Own.cmp2 (by walk_at "hp") (by walk_at "tyx") (by walk_at "nf") ?_
    refine ⟨_, _, _, _, _, _, _, _, rfl, (by walk_at "hp"), (by walk_at "hp"), fun H18 S18 => ?_⟩
    with_reducible refine Rd.op (Rd.var (by walk_at "vr") (Rd.var (by walk_at "vr") (Own.cmp2 (by walk_at "hp") (by walk_at "tyx") (by walk_at "nf") ?_)))
    refine ⟨_, _, _, _, _, _, _, _, rfl, (by walk_at "hp"), (by walk_at "hp"), fun H19 S19 => ?_⟩
    with_reducible refine Rd.neS (by walk_at "vr") (Rd.bl (Rd.iteF (by walk_at "bF") (Rd.next (Rd.seq (Rd.ifS (Rd.or (Rd.and (Rd.test (Rd.op (Rd.var (by walk_at "vr") (Rd.var (by walk_at "vr") ?_)))))))))))
    with_reducible refine Own.cmp2 (by walk_at "hp") (by walk_at "tyx") (by walk_at "nf") ?_
    refine ⟨_, _, _, _, _, _, _, _, rfl, (by walk_at "hp"), (by walk_at "hp"), fun H20 S20 => ?_⟩
    with_reducible refine Rd.bl ?_
    refine Rd.ite (fun h6 => ?_) (fun h6 => ?_)
    · try simp only [decide_eq_true_eq, Bool.not_eq_true', decide_eq_false_iff_not, Bool.not_eq_true, Bool.not_eq_eq_eq_not, Bool.not_true, Bool.not_false] at h6
      with_reducible refine Rd.and (Rd.test (Rd.op (Rd.var (by walk_at "vr") (Rd.var (by walk_at "vr") (Own.cmp2 (by walk_at "hp") (by walk_at "tyx") (by walk_at "nf") ?_)))))
      refine ⟨_, _, _, _, _, _, _, _, rfl, (by walk_at "hp"), (by walk_at "hp"), fun H21 S21 => ?_⟩
      with_reducible refine Rd.bl ?_
      refine Rd.ite (fun h7 => ?_) (fun h7 => ?_)
      · try simp only [decide_eq_true_eq, Bool.not_eq_true', decide_eq_false_iff_not, Bool.not_eq_true, Bool.not_eq_eq_eq_not, Bool.not_true, Bool.not_false] at h7
        with_reducible refine Rd.not (Rd.test (Rd.op (Rd.var (by walk_at "vr") (Rd.var (by walk_at "vr") (Own.cmp2 (by walk_at "hp") (by walk_at "tyx") (by walk_at "nf") ?_)))))
        refine ⟨_, _, _, _, _, _, _, _, rfl, (by walk_at "hp"), (by walk_at "hp"), fun H22 S22 => ?_⟩
        with_reducible refine Rd.bl (Rd.iteF (by walk_at "bF") (Rd.test (Rd.op (Rd.op (Rd.var (by walk_at "vr") (Rd.var (by walk_at "vr") (Own.cmp2 (by walk_at "hp") (by walk_at "tyx") (by walk_at "nf") ?_)))))))
        refine ⟨_, _, _, _, _, _, _, _, rfl, (by walk_at "hp"), (by walk_at "hp"), fun H23 S23 => ?_⟩
        with_reducible refine Rd.op (Rd.var (by walk_at "vr") (Rd.var (by walk_at "vr") (Own.cmp2 (by walk_at "hp") (by walk_at "tyx") (by walk_at "nf") ?_)))
        refine ⟨_, _, _, _, _, _, _, _, rfl, (by walk_at "hp"), (by walk_at "hp"), fun H24 S24 => ?_⟩
        with_reducible refine Rd.neS (by walk_at "vr") (Rd.bl (Rd.iteF (by walk_at "bF") (Rd.next (Rd.seq (Rd.asg (Rd.op (Rd.cB (Rd.cons (Rd.var (by walk_at "vr") (Rd.nil (⟨_, rfl, ?_⟩)))))))))))
        with_reducible refine Rd.c (Rd.i0 (Rd.name ?_))
        have st : 0 < (if n < 0 then -n else n) + 1 := by split <;> omega
        with_reducible refine Rd.ret (Rd.andV (Rd.op (Rd.op (Rd.op (Rd.var (by walk_at "vr") (Rd.var (by walk_at "vr") (Own.opT2 (by walk_at "hp") (by walk_at "ty0") ?_)))))))
        refine ⟨_, _, _, _, _, rfl, (by walk_at "hp"), (by walk_at "sc"), (by walk_at "sc"), (by walk_at "sc"), fun q25 dq25 H25 S25 r25 => ?_⟩
        with_reducible refine Rd.op (Rd.var (by walk_at "vr") (Rd.var (by walk_at "vr") (Own.opT2 (by walk_at "hp") (by walk_at "ty0") ?_)))
        refine ⟨_, _, _, _, _, rfl, (by walk_at "hp"), (by walk_at "sc"), (by walk_at "sc"), (by walk_at "sc"), fun q26 dq26 H26 S26 r26 => ?_⟩
        with_reducible refine Own.cmp2 (by walk_at "hp") (by walk_at "tyx") (by walk_at "nf") ?_
        refine ⟨_, _, _, _, _, _, _, _, rfl, (by walk_at "hp"), (by walk_at "hp"), fun H27 S27 => ?_⟩
        with_reducible refine Rd.op (Rd.var (by walk_at "vr") (Rd.var (by walk_at "vr") (Own.cmp2 (by walk_at "hp") (by walk_at "tyx") (by walk_at "nf") ?_)))
        refine ⟨_, _, _, _, _, _, _, _, rfl, (by walk_at "hp"), (by walk_at "hp"), fun H28 S28 => ?_⟩
        refine Rd.eqS (by walk_at "vr") ?_
        rw [Rd.stepLt st, decide_eq_true rfl]
        with_reducible refine Rd.bl (Rd.iteT (by walk_at "bT") (Rd.op (Rd.op (Rd.op (Rd.var (by walk_at "vr") (Rd.op (Rd.c (Rd.var (by walk_at "vr") (Rd.i0 (Own.opT2 (by walk_at "hp") (by walk_at "ty0") ?_))))))))))
        refine ⟨_, _, _, _, _, rfl, (by walk_at "hp"), (by walk_at "sc"), (by walk_at "sc"), (by walk_at "sc"), fun q29 dq29 H29 S29 r29 => ?_⟩
        with_reducible refine Rd.op (Rd.var (by walk_at "vr") (Rd.op (Rd.c (Rd.var (by walk_at "vr") (Rd.i0 (Own.opT2 (by walk_at "hp") (by walk_at "ty0") ?_))))))
        refine ⟨_, _, _, _, _, rfl, (by walk_at "hp"), (by walk_at "sc"), (by walk_at "sc"), (by walk_at "sc"), fun q30 dq30 H30 S30 r30 => ?_⟩
        with_reducible refine Own.cmp2 (by walk_at "hp") (by walk_at "tyx") (by walk_at "nf") ?_
        refine ⟨_, _, _, _, _, _, _, _, rfl, (by walk_at "hp"), (by walk_at "hp"), fun H31 S31 => ?_⟩
        with_reducible refine Rd.op (Rd.var (by walk_at "vr") (Rd.var (by walk_at "vr") (Own.cmp2 (by walk_at "hp") (by walk_at "tyx") (by walk_at "nf") ?_)))
        refine ⟨_, _, _, _, _, _, _, _, rfl, (by walk_at "hp"), (by walk_at "hp"), fun H32 S32 => ?_⟩
        refine Rd.eqS (by walk_at "vr") ?_
        rw [Rd.stepGt st, decide_eq_true rfl]
        exact k _ (by walk_at "frm")
      · try simp only [decide_eq_true_eq, Bool.not_eq_true', decide_eq_false_iff_not, Bool.not_eq_true, Bool.not_eq_eq_eq_not, Bool.not_true, Bool.not_false, Int.not_lt, Int.not_le, Decidable.not_not] at h7
        with_reducible refine Rd.iteF rfl (Rd.test (Rd.op (Rd.op (Rd.var (by walk_at "vr") (Rd.var (by walk_at "vr") (Own.cmp2 (by walk_at "hp") (by walk_at "tyx") (by walk_at "nf") ?_))))))
        refine ⟨_, _, _, _, _, _, _, _, rfl, (by walk_at "hp"), (by walk_at "hp"), fun H33 S33 => ?_⟩
        with_reducible refine Rd.op (Rd.var (by walk_at "vr") (Rd.var (by walk_at "vr") (Own.cmp2 (by walk_at "hp") (by walk_at "tyx") (by walk_at "nf") ?_)))
        refine ⟨_, _, _, _, _, _, _, _, rfl, (by walk_at "hp"), (by walk_at "hp"), fun H34 S34 => ?_⟩
        with_reducible refine Rd.neS (by walk_at "vr") (Rd.bl (Rd.iteF (by walk_at "bF") (Rd.next (Rd.seq (Rd.asg (Rd.op (Rd.cB (Rd.cons (Rd.var (by walk_at "vr") (Rd.nil (⟨_, rfl, ?_⟩)))))))))))
        with_reducible refine Rd.c (Rd.i0 (Rd.name ?_))
        have st : 0 < (if n < 0 then -n else n) + 1 := by split <;> omega
        with_reducible refine Rd.ret (Rd.andV (Rd.op (Rd.op (Rd.op (Rd.var (by walk_at "vr") (Rd.var (by walk_at "vr") (Own.opT2 (by walk_at "hp") (by walk_at "ty0") ?_)))))))
        refine ⟨_, _, _, _, _, rfl, (by walk_at "hp"), (by walk_at "sc"), (by walk_at "sc"), (by walk_at "sc"), fun q35 dq35 H35 S35 r35 => ?_⟩
        with_reducible refine Rd.op (Rd.var (by walk_at "vr") (Rd.var (by walk_at "vr") (Own.opT2 (by walk_at "hp") (by walk_at "ty0") ?_)))
        refine ⟨_, _, _, _, _, rfl, (by walk_at "hp"), (by walk_at "sc"), (by walk_at "sc"), (by walk_at "sc"), fun q36 dq36 H36 S36 r36 => ?_⟩
        with_reducible refine Own.cmp2 (by walk_at "hp") (by walk_at "tyx") (by walk_at "nf") ?_
        refine ⟨_, _, _, _, _, _, _, _, rfl, (by walk_at "hp"), (by walk_at "hp"), fun H37 S37 => ?_⟩
        with_reducible refine Rd.op (Rd.var (by walk_at "vr") (Rd.var (by walk_at "vr") (Own.cmp2 (by walk_at "hp") (by walk_at "tyx") (by walk_at "nf") ?_)))
        refine ⟨_, _, _, _, _, _, _, _, rfl, (by walk_at "hp"), (by walk_at "hp"), fun H38 S38 => ?_⟩
        refine Rd.eqS (by walk_at "vr") ?_
        rw [Rd.stepLt st, decide_eq_true rfl]
        with_reducible refine Rd.bl (Rd.iteT (by walk_at "bT") (Rd.op (Rd.op (Rd.op (Rd.var (by walk_at "vr") (Rd.op (Rd.c (Rd.var (by walk_at "vr") (Rd.i0 (Own.opT2 (by walk_at "hp") (by walk_at "ty0") ?_))))))))))
        refine ⟨_, _, _, _, _, rfl, (by walk_at "hp"), (by walk_at "sc"), (by walk_at "sc"), (by walk_at "sc"), fun q39 dq39 H39 S39 r39 => ?_⟩
        with_reducible refine Rd.op (Rd.var (by walk_at "vr") (Rd.op (Rd.c (Rd.var (by walk_at "vr") (Rd.i0 (Own.opT2 (by walk_at "hp") (by walk_at "ty0") ?_))))))
        refine ⟨_, _, _, _, _, rfl, (by walk_at "hp"), (by walk_at "sc"), (by walk_at "sc"), (by walk_at "sc"), fun q40 dq40 H40 S40 r40 => ?_⟩
        with_reducible refine Own.cmp2 (by walk_at "hp") (by walk_at "tyx") (by walk_at "nf") ?_
        refine ⟨_, _, _, _, _, _, _, _, rfl, (by walk_at "hp"), (by walk_at "hp"), fun H41 S41 => ?_⟩
        with_reducible refine Rd.op (Rd.var (by walk_at "vr") (Rd.var (by walk_at "vr") (Own.cmp2 (by walk_at "hp") (by walk_at "tyx") (by walk_at "nf") ?_)))
        refine ⟨_, _, _, _, _, _, _, _, rfl, (by walk_at "hp"), (by walk_at "hp"), fun H42 S42 => ?_⟩
        refine Rd.eqS (by walk_at "vr") ?_
        rw [Rd.stepGt st, decide_eq_true rfl]
        exact k _ (by walk_at "frm")
    · try simp only [decide_eq_true_eq, Bool.not_eq_true', decide_eq_false_iff_not, Bool.not_eq_true, Bool.not_eq_eq_eq_not, Bool.not_true, Bool.not_false, Int.not_lt, Int.not_le, Decidable.not_not] at h6
      with_reducible refine Rd.iteF rfl (Rd.test (Rd.op (Rd.op (Rd.var (by walk_at "vr") (Rd.var (by walk_at "vr") (Own.cmp2 (by walk_at "hp") (by walk_at "tyx") (by walk_at "nf") ?_))))))
      refine ⟨_, _, _, _, _, _, _, _, rfl, (by walk_at "hp"), (by walk_at "hp"), fun H43 S43 => ?_⟩
      with_reducible refine Rd.op (Rd.var (by walk_at "vr") (Rd.var (by walk_at "vr") (Own.cmp2 (by walk_at "hp") (by walk_at "tyx") (by walk_at "nf") ?_)))
      refine ⟨_, _, _, _, _, _, _, _, rfl, (by walk_at "hp"), (by walk_at "hp"), fun H44 S44 => ?_⟩
      with_reducible refine Rd.neS (by walk_at "vr") (Rd.bl (Rd.iteF (by walk_at "bF") (Rd.next (Rd.seq (Rd.asg (Rd.op (Rd.cB (Rd.cons (Rd.var (by walk_at "vr") (Rd.nil (⟨_, rfl, ?_⟩)))))))))))
      with_reducible refine Rd.c (Rd.i0 (Rd.name ?_))
      have st : 0 < (if n < 0 then -n else n) + 1 := by split <;> omega
      with_reducible refine Rd.ret (Rd.andV (Rd.op (Rd.op (Rd.op (Rd.var (by walk_at "vr") (Rd.var (by walk_at "vr") (Own.opT2 (by walk_at "hp") (by walk_at "ty0") ?_)))))))
      refine ⟨_, _, _, _, _, rfl, (by walk_at "hp"), (by walk_at "sc"), (by walk_at "sc"), (by walk_at "sc"), fun q45 dq45 H45 S45 r45 => ?_⟩
      with_reducible refine Rd.op (Rd.var (by walk_at "vr") (Rd.var (by walk_at "vr") (Own.opT2 (by walk_at "hp") (by walk_at "ty0") ?_)))
      refine ⟨_, _, _, _, _, rfl, (by walk_at "hp"), (by walk_at "sc"), (by walk_at "sc"), (by walk_at "sc"), fun q46 dq46 H46 S46 r46 => ?_⟩
      with_reducible refine Own.cmp2 (by walk_at "hp") (by walk_at "tyx") (by walk_at "nf") ?_
      refine ⟨_, _, _, _, _, _, _, _, rfl, (by walk_at "hp"), (by walk_at "hp"), fun H47 S47 => ?_⟩
      with_reducible refine Rd.op (Rd.var (by walk_at "vr") (Rd.var (by walk_at "vr") (Own.cmp2 (by walk_at "hp") (by walk_at "tyx") (by walk_at "nf") ?_)))
      refine ⟨_, _, _, _, _, _, _, _, rfl, (by walk_at "hp"), (by walk_at "hp"), fun H48 S48 => ?_⟩
      refine Rd.eqS (by walk_at "vr") ?_
      rw [Rd.stepLt st, decide_eq_true rfl]
      with_reducible refine Rd.bl (Rd.iteT (by walk_at "bT") (Rd.op (Rd.op (Rd.op (Rd.var (by walk_at "vr") (Rd.op (Rd.c (Rd.var (by walk_at "vr") (Rd.i0 (Own.opT2 (by walk_at "hp") (by walk_at "ty0") ?_))))))))))
      refine ⟨_, _, _, _, _, rfl, (by walk_at "hp"), (by walk_at "sc"), (by walk_at "sc"), (by walk_at "sc"), fun q49 dq49 H49 S49 r49 => ?_⟩
      with_reducible refine Rd.op (Rd.var (by walk_at "vr") (Rd.op (Rd.c (Rd.var (by walk_at "vr") (Rd.i0 (Own.opT2 (by walk_at "hp") (by walk_at "ty0") ?_))))))
      refine ⟨_, _, _, _, _, rfl, (by walk_at "hp"), (by walk_at "sc"), (by walk_at "sc"), (by walk_at "sc"), fun q50 dq50 H50 S50 r50 => ?_⟩
      with_reducible refine Own.cmp2 (by walk_at "hp") (by walk_at "tyx") (by walk_at "nf") ?_
      refine ⟨_, _, _, _, _, _, _, _, rfl, (by walk_at "hp"), (by walk_at "hp"), fun H51 S51 => ?_⟩
      with_reducible refine Rd.op (Rd.var (by walk_at "vr") (Rd.var (by walk_at "vr") (Own.cmp2 (by walk_at "hp") (by walk_at "tyx") (by walk_at "nf") ?_)))
      refine ⟨_, _, _, _, _, _, _, _, rfl, (by walk_at "hp"), (by walk_at "hp"), fun H52 S52 => ?_⟩
      refine Rd.eqS (by walk_at "vr") ?_
      rw [Rd.stepGt st, decide_eq_true rfl]
      exact k _ (by walk_at "frm")
/-! law -/
theorem sc_law : FnScope ["_law_script", "_law_turn", "_law_source_here", "_law_k", "_law_rows", "_law_a", "_law_b", "_law_c", "_law_form_here", "_law_slope", "_law_base"] ["_law_script"] (defScope s_law) := ⟨rfl, rfl, rfl, by decide +kernel, rfl, by decide +kernel, by decide +kernel⟩
abbrev sp_law (K : PySem.W.Frag) : Sp := fun vs H Q _ => ∃ (a : Addr) (ns : List Int), vs = [.ref a] ∧ SqL K H a (ns.map V.int) ∧ ns.length ≤ 63 ∧ ∀ H', Q (.bl true) H'
theorem ok_law (T : Txt w K mg A) : FnOk P w K mg base CX0 8 A.f_law A.d_law ["_law_script"] (sp_law K) := by
  refine T.F_law.ok sc_law (fun vs H Q E h => ?_) (fun cdv Ar outer s H vs Q E hr h => ?_)
  · obtain ⟨a, ns, rfl, hS, hlen, k⟩ := h
    rfl
  · obtain ⟨a, ns, rfl, hS, hlen, k⟩ := h
    have hu := hu_of hr
    have t_i_Form := T.i_Form
    have t_kt_Form_Form := T.kt_Form_Form
    have t_kt_int_Form := T.kt_int_Form
    have t_nf_Form_Form := T.nf_Form_Form
    have t_nf_int_Form := T.nf_int_Form
    have t_k_Form := T.k_Form
    refine ⟨_, (pss_cons (ps_for PassesOwn.never rfl (pi_range1 (by rfl) T.n_range (pa_cons (pe_callB (call_max2 rfl) (by rfl) T.n_max (by decide +kernel) (pa_cons pe_int (pa_cons (pe_callB (call_min2 rfl) (by rfl) T.n_min (by decide +kernel) (pa_cons (pe_callB call_len_seq (by rfl) T.n_len PySem.boot_len (pa_cons (pv 0) pa_nil)) (pa_cons pe_int pa_nil))) pa_nil))) pa_nil)) (pg_name (i := 1) sc_law.nd rfl (Or.inl rfl)) (pss_cons (ps_set (i := 2) sc_law.nd rfl (Or.inr rfl) (pe_call (ok_l_source T) (hr.mono (by decide)) (by rfl) T.m_l_source T.F_l_source.kp T.b_l_source .nil pass0 (pa_cons (pv 0) (pa_cons (pv 1) pa_nil))))
      (pss_cons (ps_setLc (i := 4) (own := [("_law_k", 3)]) (g := gName 3) rfl sc_law.nd rfl rfl (sw_true rfl rfl rfl (by decide +kernel)) (pi_range1 (by rfl) T.n_range (pa_cons pe_int pa_nil)) (blkOk_by (own := [("_law_k", 3)]) (N := ["_law_script", "_law_turn", "_law_source_here", "_law_k", "_law_rows", "_law_a", "_law_b", "_law_c", "_law_form_here", "_law_slope", "_law_base"]) (sc := defScope s_law) (by decide +kernel)) (fun _ _ _ _ _ => (pg_name (i := 3) sc_law.nd rfl (Or.inl rfl))) (fun _ _ _ _ _ => pts_nil) (fun _ _ _ _ _ => (pe_call (ok_l_form T) (hr.mono (by decide)) (by rfl) T.m_l_form T.F_l_form.kp T.b_l_form .nil pass0 (pa_cons (pv 2) pa_nil))))
      (pss_cons (ps_if (pt_cmpR op_eq (pe_call (ok_l_draw T) (hr.mono (by decide)) (by rfl) T.m_l_draw T.F_l_draw.kp T.b_l_draw .nil pass0 (pa_cons (pv 2) (pa_cons pe_int pa_nil))) pe_int (nomark _)) (pss_one (ps_asg (pe_tup (pa_cons (pe_ix ix_tup (pe_ix ix_list (pv 4) pe_int (fun _ _ => rfl)) pe_int (fun _ _ => rfl)) (pa_cons (pe_ix ix_tup (pe_ix ix_list (pv 4) pe_int (fun _ _ => rfl)) pe_int (fun _ _ => rfl)) pa_nil))) (pg_sub (pv 4) pe_int set_list))) pss_nil)
      (pss_cons (ps_asg (pe_lc (own := [("_law_slope", 9), ("_law_base", 10)]) (g := gTup K 2 (gCons (gName 9) (gCons (gName 10) gNil))) rfl sc_law.nd (pi_list (pv 4)) (blkOk_by (own := [("_law_slope", 9), ("_law_base", 10)]) (N := ["_law_script", "_law_turn", "_law_source_here", "_law_k", "_law_rows", "_law_a", "_law_b", "_law_c", "_law_form_here", "_law_slope", "_law_base"]) (sc := defScope s_law) (by decide +kernel)) (fun _ _ _ _ _ => pg_tup (by rfl) (pgs_cons (pg_name (i := 9) sc_law.nd rfl (Or.inl rfl)) (pgs_cons (pg_name (i := 10) sc_law.nd rfl (Or.inl rfl)) pgs_nil))) (fun _ _ _ _ _ => pts_nil) (fun _ _ _ _ _ => (pe_make T.K_Form (ok_Formu__initu_ T) (hr.mono (by decide)) (by rfl) T.m_Form T.b_Formu__initu_ .nil pass0 (pa_cons (pv 9) (pa_cons (pv 10) pa_nil))))) (pg_unl rfl (pgs_cons (pg_name (i := 5) sc_law.nd rfl (Or.inl rfl)) (pgs_cons (pg_name (i := 6) sc_law.nd rfl (Or.inl rfl)) (pgs_cons (pg_name (i := 7) sc_law.nd rfl (Or.inl rfl)) pgs_nil)))))
      (pss_cons (ps_set (i := 3) sc_law.nd rfl (Or.inl rfl) (pe_ix ix_tup (pe_call (ok_l_form T) (hr.mono (by decide)) (by rfl) T.m_l_form T.F_l_form.kp T.b_l_form .nil pass0 (pa_cons (pv 2) pa_nil)) pe_int (fun _ _ => rfl)))
      (pss_cons (ps_if (PW.pt (pw_or (pt_not (pt_val (pe_call (ok_l_alike T) (hr.mono (by decide)) (by rfl) T.m_l_alike T.F_l_alike.kp T.b_l_alike .nil pass0 (pa_cons (pv 5) (pa_cons (pv 6) (pa_cons (pv 7) (pa_cons (pv 3) pa_nil))))))) (pw_or1 (pt_not (pt_val (pe_call (ok_l_ordered T) (hr.mono (by decide)) (by rfl) T.m_l_ordered T.F_l_ordered.kp T.b_l_ordered .nil pass0 (pa_cons (pv 5) (pa_cons (pv 6) (pa_cons (pv 7) (pa_cons (pv 3) pa_nil)))))))))) (pss_one (ps_ret pe_bl)) pss_nil)
      (pss_cons (ps_if (pt_not (pt_val (pe_call (ok_l_ordered T) (hr.mono (by decide)) (by rfl) T.m_l_ordered T.F_l_ordered.kp T.b_l_ordered .nil pass0 (pa_cons (pv 5) (pa_cons (pv 5) (pa_cons (pv 7) (pa_cons (pv 3) pa_nil))))))) (pss_one (ps_ret pe_bl)) pss_nil)
      (pss_one (ps_for PassesOwn.never rfl (pi_list (pe_lst (pa_cons (pv 5) (pa_cons (pv 6) (pa_cons (pe_op (Own.opS (op := .Add) (ok_Formu__addu_ T) (hr.mono (by decide)) T.O_Formu__addu__S T.b_Formu__addu_ pass0) (pv 5) (pv 6)) (pa_cons (pe_op (Own.opS (op := .Sub) (ok_Formu__subu_ T) (hr.mono (by decide)) T.O_Formu__subu__S T.b_Formu__subu_ pass0) (pv 5) (pv 7)) (pa_cons (pe_un (Own.neg (ok_Formu__negu_ T) (hr.mono (by decide)) T.O_Formu__negu__1 T.b_Formu__negu_ pass0) (pv 5)) pa_nil))))))) (pg_name (i := 8) sc_law.nd rfl (Or.inl rfl)) (pss_one (ps_if (PW.pt (pw_and (pt_cmpR op_lt (pe_callB call_abs (by rfl) T.n_abs (by decide +kernel) (pa_cons (pe_fld (pv 8) rfl) pa_nil)) (pe_op op_pow pe_int pe_int) (nomark _)) (pw_and (pt_cmpR op_lt (pe_callB call_abs (by rfl) T.n_abs (by decide +kernel) (pa_cons (pe_fld (pv 8) rfl) pa_nil)) (pe_op op_pow pe_int pe_int) (nomark _)) (pw_and1 (pt_cmpR (Own.ne (ok_Formu__equ_ T) (hr.mono (by decide)) T.O_Formu__equ__N T.b_Formu__equ_ pass0) (Sta.pe_smeth (pe_glob (v := .ref A.c_Form) rfl T.m_Form rfl) T.S_Form_read (ok_Form_read T) (hr.mono (by decide)) T.b_Form_read .nil pass0 (pa_cons (pe_call (ok_show_form T) (hr.mono (by decide)) (by rfl) T.m_show_form T.F_show_form.kp T.b_show_form .nil pass0 (pa_cons (pv 8) pa_nil)) pa_nil)) (pv 8) (nomark _)))))) (pss_one (ps_ret pe_bl)) pss_nil))))))))))))
      (pss_one (ps_ret pe_bl))), ?_⟩
    try dsimp only [L2.cxOf, L2.Cx.nox, L2.Cx.wish]
    with_reducible refine Rd.seq (Rd.fr (Rd.rng1 (Rd.cons (Rd.cB (Rd.cons (Rd.c (Rd.cons (Rd.cB (Rd.cons (Rd.cB (Rd.cons ?_)))))))))))
    with_reducible refine Rd.var (by walk_at "vr") (Rd.nil (⟨_, _, rfl, (by walk_at "hpq"), (Rd.cons (Rd.c (Rd.nil (⟨_, _, rfl, (Rd.nil (⟨_, _, rfl, (Rd.nil (⟨_, rfl, (by walk_at "sc"), (by walk_at "sc"), ?_⟩))⟩))⟩))))⟩))
    refine for_range (lo := 0) (fun (_ : Nat) (σ : L2.St) (H' : Hp) => ∃ v_turn v_source_here v_k v_rows v_a v_b v_c v_form_here v_slope v_base : Option V, σ = [some (.ref a), v_turn, v_source_here, v_k, v_rows, v_a, v_b, v_c, v_form_here, v_slope, v_base] ∧ Same H H') ⟨none, none, none, none, none, none, none, none, none, none, rfl, Same.refl _⟩ (fun i σ H0 hi ⟨v_turn, v_source_here, v_k, v_rows, v_a, v_b, v_c, v_form_here, v_slope, v_base, es, S0⟩ => ?_) (fun σ H0 ⟨v_turn, v_source_here, v_k, v_rows, v_a, v_b, v_c, v_form_here, v_slope, v_base, es, S0⟩ => ?_)
    · subst es
      have hS0 := Same.seq S0 hS
      with_reducible refine Rd.name (Rd.seq (Rd.asg (Rd.call (Rd.cons (Rd.var (by walk_at "vr") (Rd.cons (Rd.var (by walk_at "vr") (Rd.nil ?_))))))))
      refine ⟨_, _, _, rfl, (by walk_at "hpl"), (by walk_at "sc"), (by walk_at "sc"), fun src1 o1 src1n s1 => ?_⟩
      with_reducible refine Rd.name ?_
      try dsimp only [Int.reduceToNat, List.set]
      with_reducible refine Rd.seq (Rd.asg (Rd.lc (Rd.rng1 (Rd.cons (Rd.c (Rd.nil (⟨_, rfl, (by walk_at "sc"), (by walk_at "sc"), ?_⟩)))))))
      refine Rd.lcUnrR ?_
      intro D0 nD0
      refine Rd.remCons trivial ?_
      with_reducible refine Rd.name ?_
      refine ⟨rfl, ?_⟩
      refine Rd.yes (Rd.iteT rfl ?_)
      with_reducible refine Rd.call (Rd.cons (Rd.var (by walk_at "vr") (Rd.nil ?_)))
      refine ⟨_, _, rfl, (by walk_at "hp"), (by walk_at "sc"), fun t2 s2 b2 o2 H2 F2 r2 so2 n2 e2 bs2 bb2 => ?_⟩
      refine ⟨_, (by walk_at "hp"), L2.small1000 (by walk_at "ll"), ?_⟩
      refine Rd.remCons trivial ?_
      with_reducible refine Rd.name ?_
      refine ⟨rfl, ?_⟩
      refine Rd.yes (Rd.iteT rfl ?_)
      with_reducible refine Rd.call (Rd.cons (Rd.var (by walk_at "vr") (Rd.nil ?_)))
      refine ⟨_, _, rfl, (by walk_at "hp"), (by walk_at "sc"), fun t3 s3 b3 o3 H3 F3 r3 so3 n3 e3 bs3 bb3 => ?_⟩
      refine ⟨_, (by walk_at "hp"), L2.small1000 (by walk_at "ll"), ?_⟩
      refine Rd.remCons trivial ?_
      with_reducible refine Rd.name ?_
      refine ⟨rfl, ?_⟩
      refine Rd.yes (Rd.iteT rfl ?_)
      with_reducible refine Rd.call (Rd.cons (Rd.var (by walk_at "vr") (Rd.nil ?_)))
      refine ⟨_, _, rfl, (by walk_at "hp"), (by walk_at "sc"), fun t4 s4 b4 o4 H4 F4 r4 so4 n4 e4 bs4 bb4 => ?_⟩
      refine ⟨_, (by walk_at "hp"), L2.small1000 (by walk_at "ll"), ?_⟩
      refine Rd.remNil trivial ?_
      simp only [List.nil_append, List.cons_append]
      with_reducible refine Rd.name ?_
      try dsimp only [Int.reduceToNat, List.set]
      with_reducible refine Rd.seq ?_
      refine Rd.ifJ (fun σ' H' => ∃ v_turn v_k v_a v_b v_c v_form_here v_slope v_base : Option V, ∃ q0 q1 q2 : Addr, ∃ s0 b0 s1 b1 s2 b2 : Int, ∃ oo : HO, σ' = [some (.ref a), v_turn, some (.ref src1), v_k, some (.ref D0), v_a, v_b, v_c, v_form_here, v_slope, v_base] ∧ Same H H' ∧ H' src1 = some oo ∧ SrcO oo ∧ H' D0 = some (.lst [.ref q0, .ref q1, .ref q2]) ∧ H' q0 = some (.tup [.int s0, .int b0]) ∧ H' q1 = some (.tup [.int s1, .int b1]) ∧ H' q2 = some (.tup [.int s2, .int b2]) ∧ (-(2 ^ 105) < s0 ∧ s0 < 2 ^ 105) ∧ (-(2 ^ 105) < b0 ∧ b0 < 2 ^ 105) ∧ (-(2 ^ 105) < s1 ∧ s1 < 2 ^ 105) ∧ (-(2 ^ 105) < b1 ∧ b1 < 2 ^ 105) ∧ (-(2 ^ 105) < s2 ∧ s2 < 2 ^ 105) ∧ (-(2 ^ 105) < b2 ∧ b2 < 2 ^ 105)) ?_ ?_
      · intro key
        with_reducible refine Rd.ifS (Rd.test (Rd.op (Rd.call (Rd.cons (Rd.var (by walk_at "vr") (Rd.cons (Rd.c (Rd.nil ?_))))))))
        refine ⟨_, _, _, rfl, (by walk_at "hp"), (by walk_at "sc"), (by walk_at "sc"), (by walk_at "sc"), fun d5 o5 d5a d5b s5 => ?_⟩
        with_reducible refine Rd.c (Rd.eqS (by walk_at "vr") (Rd.bl ?_))
        refine Rd.ite (fun h0 => ?_) (fun h0 => ?_)
        · try simp only [decide_eq_true_eq, Bool.not_eq_true', decide_eq_false_iff_not, Bool.not_eq_true, Bool.not_eq_eq_eq_not, Bool.not_true, Bool.not_false] at h0
          with_reducible refine Rd.asg (Rd.tup (Rd.cons (Rd.op (Rd.op (Rd.var (by walk_at "vr") (Rd.c (Rd.ixL (by walk_at "hpl") (by walk_at "vr") (Rd.c (Rd.ixT (by walk_at "hpt") (by walk_at "vr") (Rd.cons (Rd.op ?_)))))))))))
          with_reducible refine Rd.op (Rd.var (by walk_at "vr") (Rd.c (Rd.ixL (by walk_at "hpl") (by walk_at "vr") (Rd.c (Rd.ixT (by walk_at "hpt") (by walk_at "vr") (Rd.nil (Rd.laid (by walk_at "ll") ?_)))))))
          intro p1 np1
          with_reducible refine Rd.sub (Rd.var (by walk_at "vr") (Rd.c (Rd.setL (by walk_at "hp") (by walk_at "ixn") ?_)))
          try dsimp only [Int.reduceToNat, List.set]
          exact key _ _ ⟨_, _, _, _, _, _, _, _, _, _, _, _, _, _, _, _, _, _, rfl, (by walk_at "frm"), (by walk_at "hp"), (by assumption), (by walk_at "hp"), (by walk_at "hp"), (by walk_at "hp"), (by walk_at "hp"), (by walk_at "sc"), (by walk_at "sc"), (by walk_at "sc"), (by walk_at "sc"), (by walk_at "sc"), (by walk_at "sc")⟩
        · try simp only [decide_eq_true_eq, Bool.not_eq_true', decide_eq_false_iff_not, Bool.not_eq_true, Bool.not_eq_eq_eq_not, Bool.not_true, Bool.not_false, Int.not_lt, Int.not_le, Decidable.not_not] at h0
          with_reducible refine Rd.next ?_
          exact key _ _ ⟨_, _, _, _, _, _, _, _, _, _, _, _, _, _, _, _, _, _, rfl, (by walk_at "frm"), (by walk_at "hp"), (by assumption), (by walk_at "hp"), (by walk_at "hp"), (by walk_at "hp"), (by walk_at "hp"), (by walk_at "sc"), (by walk_at "sc"), (by walk_at "sc"), (by walk_at "sc"), (by walk_at "sc"), (by walk_at "sc")⟩
      · rintro σ' H9 ⟨v_turn, v_k, v_a, v_b, v_c, v_form_here, v_slope, v_base, q0, q1, q2, s0, b0, s1, b1, s2, b2, oo, rfl, S9, hs9, so9, hr9, hq0, hq1, hq2, is0, ib0, is1, ib1, is2, ib2⟩
        with_reducible refine Rd.seq (Rd.asg (Rd.lc (Rd.il (Rd.var (by walk_at "vr") ?_))))
        refine ⟨_, rfl, ?_⟩
        refine Rd.lcUnrL (by walk_at "hpl") ?_
        intro D2 nD2
        refine Rd.remCons (by walk_at "hpl") ?_
        refine Rd.gtup (by walk_at "hpt") rfl ?_
        with_reducible refine Rd.gcons (Rd.name (Rd.gcons (Rd.name (Rd.gnil ?_))))
        refine ⟨rfl, ?_⟩
        refine Rd.yes (Rd.iteT rfl ?_)
        with_reducible refine Rd.make (Rd.cons (Rd.var (by walk_at "vr") (Rd.cons (Rd.var (by walk_at "vr") (Rd.nil ?_)))))
        intro x6 dx6 nx6 ndx6 ne6
        refine ⟨_, _, _, _, rfl, L2.upd_same, ?_⟩
        refine ⟨rfl, ?_⟩
        rw [L2.upd_upd]
        refine ⟨_, (by walk_at "hp"), L2.small1000 (by walk_at "ll"), ?_⟩
        refine Rd.remCons (by walk_at "hpl") ?_
        refine Rd.gtup (by walk_at "hpt") rfl ?_
        with_reducible refine Rd.gcons (Rd.name (Rd.gcons (Rd.name (Rd.gnil ?_))))
        refine ⟨rfl, ?_⟩
        refine Rd.yes (Rd.iteT rfl ?_)
        with_reducible refine Rd.make (Rd.cons (Rd.var (by walk_at "vr") (Rd.cons (Rd.var (by walk_at "vr") (Rd.nil ?_)))))
        intro x7 dx7 nx7 ndx7 ne7
        refine ⟨_, _, _, _, rfl, L2.upd_same, ?_⟩
        refine ⟨rfl, ?_⟩
        rw [L2.upd_upd]
        refine ⟨_, (by walk_at "hp"), L2.small1000 (by walk_at "ll"), ?_⟩
        refine Rd.remCons (by walk_at "hpl") ?_
        refine Rd.gtup (by walk_at "hpt") rfl ?_
        with_reducible refine Rd.gcons (Rd.name (Rd.gcons (Rd.name (Rd.gnil ?_))))
        refine ⟨rfl, ?_⟩
        refine Rd.yes (Rd.iteT rfl ?_)
        with_reducible refine Rd.make (Rd.cons (Rd.var (by walk_at "vr") (Rd.cons (Rd.var (by walk_at "vr") (Rd.nil ?_)))))
        intro x8 dx8 nx8 ndx8 ne8
        refine ⟨_, _, _, _, rfl, L2.upd_same, ?_⟩
        refine ⟨rfl, ?_⟩
        rw [L2.upd_upd]
        refine ⟨_, (by walk_at "hp"), L2.small1000 (by walk_at "ll"), ?_⟩
        refine Rd.remNil (by walk_at "hpl") ?_
        simp only [List.nil_append, List.cons_append]
        refine ⟨_, _, rfl, (by walk_at "hpl"), rfl, ?_⟩
        with_reducible refine Rd.gcons (Rd.name (Rd.gcons (Rd.name (Rd.gcons (Rd.name (Rd.gnil (Rd.seq (Rd.asg (Rd.op (Rd.call (Rd.cons ?_)))))))))))
        with_reducible refine Rd.var (by walk_at "vr") (Rd.nil ?_)
        refine ⟨_, _, rfl, (by walk_at "hp"), (by walk_at "sc"), fun t9 s9 b9 o9 H9 F9 r9 so9 n9 e9 bs9 bb9 => ?_⟩
        with_reducible refine Rd.c (Rd.ixT (by walk_at "hpt") (by walk_at "vr") (Rd.name ?_))
        try dsimp only [Int.reduceToNat, List.set]
        with_reducible refine Rd.seq (Rd.ifS (Rd.or (Rd.not (Rd.tb (Rd.call (Rd.cons (Rd.var (by walk_at "vr") (Rd.cons (Rd.var (by walk_at "vr") (Rd.cons (Rd.var (by walk_at "vr") ?_)))))))))))
        with_reducible refine Rd.cons (Rd.var (by walk_at "vr") (Rd.nil ?_))
        refine ⟨_, _, _, _, _, _, _, _, _, _, _, _, _, rfl, ⟨(by walk_at "hp"), (by walk_at "hp"), (by walk_at "hp"), (by walk_at "sc"), (by walk_at "sc"), (by walk_at "sc"), (by walk_at "sc"), (by walk_at "sc"), (by walk_at "sc"), (by walk_at "sc")⟩, fun H10 S10 => ?_⟩
        with_reducible refine Rd.bl (Rd.iteF (by walk_at "bF") (Rd.not (Rd.tb (Rd.call (Rd.cons (Rd.var (by walk_at "vr") (Rd.cons (Rd.var (by walk_at "vr") (Rd.cons (Rd.var (by walk_at "vr") (Rd.cons ?_)))))))))))
        with_reducible refine Rd.var (by walk_at "vr") (Rd.nil ?_)
        refine ⟨_, _, _, _, _, _, _, _, _, _, _, _, _, rfl, ⟨(by walk_at "hp"), (by walk_at "hp"), (by walk_at "hp"), (by walk_at "sc"), (by walk_at "sc"), (by walk_at "sc"), (by walk_at "sc"), (by walk_at "sc"), (by walk_at "sc"), (by walk_at "sc")⟩, fun H11 S11 => ?_⟩
        with_reducible refine Rd.bl (Rd.iteF (by walk_at "bF") (Rd.next (Rd.seq (Rd.ifS (Rd.not (Rd.tb (Rd.call (Rd.cons (Rd.var (by walk_at "vr") (Rd.cons (Rd.var (by walk_at "vr") ?_)))))))))))
        with_reducible refine Rd.cons (Rd.var (by walk_at "vr") (Rd.cons (Rd.var (by walk_at "vr") (Rd.nil ?_))))
        refine ⟨_, _, _, _, _, _, _, _, _, _, _, _, _, rfl, ⟨(by walk_at "hp"), (by walk_at "hp"), (by walk_at "hp"), (by walk_at "sc"), (by walk_at "sc"), (by walk_at "sc"), (by walk_at "sc"), (by walk_at "sc"), (by walk_at "sc"), (by walk_at "sc")⟩, fun H12 S12 => ?_⟩
        with_reducible refine Rd.bl (Rd.iteF (by walk_at "bF") (Rd.next (Rd.fr (Rd.il (Rd.lst (Rd.cons (Rd.var (by walk_at "vr") (Rd.cons (Rd.var (by walk_at "vr") (Rd.cons (Rd.op ?_)))))))))))
        with_reducible refine Rd.var (by walk_at "vr") (Rd.var (by walk_at "vr") (Own.opS2 (by walk_at "hp") (by walk_at "hp") ?_))
        refine ⟨_, _, _, _, _, _, _, rfl, (by walk_at "hp"), (by walk_at "argf"), fun q13 dq13 H13 S13 r13 => ?_⟩
        with_reducible refine Rd.cons (Rd.op (Rd.var (by walk_at "vr") (Rd.var (by walk_at "vr") (Own.opS2 (by walk_at "hp") (by walk_at "hp") ?_))))
        refine ⟨_, _, _, _, _, _, _, rfl, (by walk_at "hp"), (by walk_at "argf"), fun q14 dq14 H14 S14 r14 => ?_⟩
        with_reducible refine Rd.cons (Rd.un (Rd.var (by walk_at "vr") (Own.neg2 (by walk_at "hp") ?_)))
        refine ⟨_, _, _, _, rfl, (by walk_at "hp"), fun q15 dq15 H15 S15 r15 => ?_⟩
        with_reducible refine Rd.nil (Rd.laid (by walk_at "ll") ?_)
        intro p3 np3
        with_reducible refine ⟨_, rfl, ?_⟩
        refine Rd.unroll2 (by walk_at "hpl") ?_
        refine Rd.unrCons ?_
        with_reducible refine Rd.name ?_
        dsimp only [List.set]
        with_reducible refine Rd.ifS (Rd.and (Rd.test (Rd.op (Rd.cB (Rd.cons (Rd.fld (Rd.var (by walk_at "vr") (⟨_, _, _, _, _, rfl, (by walk_at "hp"), T.k_Form, T.n_Form_slope, (by walk_at "lk"), (Rd.nil (⟨_, rfl, (Rd.op ?_)⟩))⟩))))))))
        with_reducible refine Rd.c (Rd.c (Rd.iC (by walk_at "scp") ?_))
        refine Rd.i0 ?_
        rw [show ((10 : Int) ^ Int.toNat 40) = 10000000000000000000000000000000000000000 from by decide +kernel]
        with_reducible refine Rd.bl (Rd.iteT (by walk_at "bT") (Rd.and (Rd.test (Rd.op (Rd.cB (Rd.cons (Rd.fld (Rd.var (by walk_at "vr") (⟨_, _, _, _, _, rfl, (by walk_at "hp"), T.k_Form, T.n_Form_base, (by walk_at "lk"), (Rd.nil (⟨_, rfl, ?_⟩))⟩)))))))))
        with_reducible refine Rd.op (Rd.c (Rd.c (Rd.iC (by walk_at "scp") ?_)))
        refine Rd.i0 ?_
        rw [show ((10 : Int) ^ Int.toNat 40) = 10000000000000000000000000000000000000000 from by decide +kernel]
        with_reducible refine Rd.bl (Rd.iteT (by walk_at "bT") (Rd.test (Rd.op (Rd.smeth (Rd.c (⟨rfl, (Rd.cons (Rd.call (Rd.cons (Rd.var (by walk_at "vr") (Rd.nil ?_)))))⟩))))))
        refine ⟨_, _, _, _, rfl, (by walk_at "hp"), (by walk_at "sc"), (by walk_at "sc"), ?_⟩
        with_reducible refine Rd.nil ?_
        refine ⟨_, _, rfl, (by walk_at "sc"), (by walk_at "sc"), fun q17 dq17 H17 S17 r17 => ?_⟩
        with_reducible refine Rd.var (by walk_at "vr") (Own.ne2 (by walk_at "hp") (by walk_at "tyx") (by walk_at "nf") ?_)
        refine ⟨_, _, _, _, _, rfl, (by walk_at "hp"), .inl ⟨_, _, _, _, rfl, (by walk_at "hp"), ?_⟩⟩
        refine ⟨_, rfl, ?_⟩
        with_reducible refine Rd.bl (Rd.iteF (by walk_at "bF") (Rd.next ?_))
        refine ⟨by walk_at "hpl", ?_⟩
        refine Rd.unrCons ?_
        with_reducible refine Rd.name ?_
        dsimp only [List.set]
        with_reducible refine Rd.ifS (Rd.and (Rd.test (Rd.op (Rd.cB (Rd.cons (Rd.fld (Rd.var (by walk_at "vr") (⟨_, _, _, _, _, rfl, (by walk_at "hp"), T.k_Form, T.n_Form_slope, (by walk_at "lk"), (Rd.nil (⟨_, rfl, (Rd.op ?_)⟩))⟩))))))))
        with_reducible refine Rd.c (Rd.c (Rd.iC (by walk_at "scp") ?_))
        refine Rd.i0 ?_
        rw [show ((10 : Int) ^ Int.toNat 40) = 10000000000000000000000000000000000000000 from by decide +kernel]
        with_reducible refine Rd.bl (Rd.iteT (by walk_at "bT") (Rd.and (Rd.test (Rd.op (Rd.cB (Rd.cons (Rd.fld (Rd.var (by walk_at "vr") (⟨_, _, _, _, _, rfl, (by walk_at "hp"), T.k_Form, T.n_Form_base, (by walk_at "lk"), (Rd.nil (⟨_, rfl, ?_⟩))⟩)))))))))
        with_reducible refine Rd.op (Rd.c (Rd.c (Rd.iC (by walk_at "scp") ?_)))
        refine Rd.i0 ?_
        rw [show ((10 : Int) ^ Int.toNat 40) = 10000000000000000000000000000000000000000 from by decide +kernel]
        with_reducible refine Rd.bl (Rd.iteT (by walk_at "bT") (Rd.test (Rd.op (Rd.smeth (Rd.c (⟨rfl, (Rd.cons (Rd.call (Rd.cons (Rd.var (by walk_at "vr") (Rd.nil ?_)))))⟩))))))
        refine ⟨_, _, _, _, rfl, (by walk_at "hp"), (by walk_at "sc"), (by walk_at "sc"), ?_⟩
        with_reducible refine Rd.nil ?_
        refine ⟨_, _, rfl, (by walk_at "sc"), (by walk_at "sc"), fun q20 dq20 H20 S20 r20 => ?_⟩
        with_reducible refine Rd.var (by walk_at "vr") (Own.ne2 (by walk_at "hp") (by walk_at "tyx") (by walk_at "nf") ?_)
        refine ⟨_, _, _, _, _, rfl, (by walk_at "hp"), .inl ⟨_, _, _, _, rfl, (by walk_at "hp"), ?_⟩⟩
        refine ⟨_, rfl, ?_⟩
        with_reducible refine Rd.bl (Rd.iteF (by walk_at "bF") (Rd.next ?_))
        refine ⟨by walk_at "hpl", ?_⟩
        refine Rd.unrCons ?_
        with_reducible refine Rd.name ?_
        dsimp only [List.set]
        with_reducible refine Rd.ifS (Rd.and (Rd.test (Rd.op (Rd.cB (Rd.cons (Rd.fld (Rd.var (by walk_at "vr") (⟨_, _, _, _, _, rfl, (by walk_at "hp"), T.k_Form, T.n_Form_slope, (by walk_at "lk"), (Rd.nil (⟨_, rfl, (Rd.op ?_)⟩))⟩))))))))
        with_reducible refine Rd.c (Rd.c (Rd.iC (by walk_at "scp") ?_))
        refine Rd.i0 ?_
        rw [show ((10 : Int) ^ Int.toNat 40) = 10000000000000000000000000000000000000000 from by decide +kernel]
        with_reducible refine Rd.bl (Rd.iteT (by walk_at "bT") (Rd.and (Rd.test (Rd.op (Rd.cB (Rd.cons (Rd.fld (Rd.var (by walk_at "vr") (⟨_, _, _, _, _, rfl, (by walk_at "hp"), T.k_Form, T.n_Form_base, (by walk_at "lk"), (Rd.nil (⟨_, rfl, ?_⟩))⟩)))))))))
        with_reducible refine Rd.op (Rd.c (Rd.c (Rd.iC (by walk_at "scp") ?_)))
        refine Rd.i0 ?_
        rw [show ((10 : Int) ^ Int.toNat 40) = 10000000000000000000000000000000000000000 from by decide +kernel]
        with_reducible refine Rd.bl (Rd.iteT (by walk_at "bT") (Rd.test (Rd.op (Rd.smeth (Rd.c (⟨rfl, (Rd.cons (Rd.call (Rd.cons (Rd.var (by walk_at "vr") (Rd.nil ?_)))))⟩))))))
        refine ⟨_, _, _, _, rfl, (by walk_at "hp"), (by walk_at "sc"), (by walk_at "sc"), ?_⟩
        with_reducible refine Rd.nil ?_
        refine ⟨_, _, rfl, (by walk_at "sc"), (by walk_at "sc"), fun q23 dq23 H23 S23 r23 => ?_⟩
        with_reducible refine Rd.var (by walk_at "vr") (Own.ne2 (by walk_at "hp") (by walk_at "tyx") (by walk_at "nf") ?_)
        refine ⟨_, _, _, _, _, rfl, (by walk_at "hp"), .inl ⟨_, _, _, _, rfl, (by walk_at "hp"), ?_⟩⟩
        refine ⟨_, rfl, ?_⟩
        with_reducible refine Rd.bl (Rd.iteF (by walk_at "bF") (Rd.next ?_))
        refine ⟨by walk_at "hpl", ?_⟩
        refine Rd.unrCons ?_
        with_reducible refine Rd.name ?_
        dsimp only [List.set]
        with_reducible refine Rd.ifS (Rd.and (Rd.test (Rd.op (Rd.cB (Rd.cons (Rd.fld (Rd.var (by walk_at "vr") (⟨_, _, _, _, _, rfl, (by walk_at "hp"), T.k_Form, T.n_Form_slope, (by walk_at "lk"), (Rd.nil (⟨_, rfl, (Rd.op ?_)⟩))⟩))))))))
        with_reducible refine Rd.c (Rd.c (Rd.iC (by walk_at "scp") ?_))
        refine Rd.i0 ?_
        rw [show ((10 : Int) ^ Int.toNat 40) = 10000000000000000000000000000000000000000 from by decide +kernel]
        with_reducible refine Rd.bl (Rd.iteT (by walk_at "bT") (Rd.and (Rd.test (Rd.op (Rd.cB (Rd.cons (Rd.fld (Rd.var (by walk_at "vr") (⟨_, _, _, _, _, rfl, (by walk_at "hp"), T.k_Form, T.n_Form_base, (by walk_at "lk"), (Rd.nil (⟨_, rfl, ?_⟩))⟩)))))))))
        with_reducible refine Rd.op (Rd.c (Rd.c (Rd.iC (by walk_at "scp") ?_)))
        refine Rd.i0 ?_
        rw [show ((10 : Int) ^ Int.toNat 40) = 10000000000000000000000000000000000000000 from by decide +kernel]
        with_reducible refine Rd.bl (Rd.iteT (by walk_at "bT") (Rd.test (Rd.op (Rd.smeth (Rd.c (⟨rfl, (Rd.cons (Rd.call (Rd.cons (Rd.var (by walk_at "vr") (Rd.nil ?_)))))⟩))))))
        refine ⟨_, _, _, _, rfl, (by walk_at "hp"), (by walk_at "sc"), (by walk_at "sc"), ?_⟩
        with_reducible refine Rd.nil ?_
        refine ⟨_, _, rfl, (by walk_at "sc"), (by walk_at "sc"), fun q26 dq26 H26 S26 r26 => ?_⟩
        with_reducible refine Rd.var (by walk_at "vr") (Own.ne2 (by walk_at "hp") (by walk_at "tyx") (by walk_at "nf") ?_)
        refine ⟨_, _, _, _, _, rfl, (by walk_at "hp"), .inl ⟨_, _, _, _, rfl, (by walk_at "hp"), ?_⟩⟩
        refine ⟨_, rfl, ?_⟩
        with_reducible refine Rd.bl (Rd.iteF (by walk_at "bF") (Rd.next ?_))
        refine ⟨by walk_at "hpl", ?_⟩
        refine Rd.unrCons ?_
        with_reducible refine Rd.name ?_
        dsimp only [List.set]
        with_reducible refine Rd.ifS (Rd.and (Rd.test (Rd.op (Rd.cB (Rd.cons (Rd.fld (Rd.var (by walk_at "vr") (⟨_, _, _, _, _, rfl, (by walk_at "hp"), T.k_Form, T.n_Form_slope, (by walk_at "lk"), (Rd.nil (⟨_, rfl, (Rd.op ?_)⟩))⟩))))))))
        with_reducible refine Rd.c (Rd.c (Rd.iC (by walk_at "scp") ?_))
        refine Rd.i0 ?_
        rw [show ((10 : Int) ^ Int.toNat 40) = 10000000000000000000000000000000000000000 from by decide +kernel]
        with_reducible refine Rd.bl (Rd.iteT (by walk_at "bT") (Rd.and (Rd.test (Rd.op (Rd.cB (Rd.cons (Rd.fld (Rd.var (by walk_at "vr") (⟨_, _, _, _, _, rfl, (by walk_at "hp"), T.k_Form, T.n_Form_base, (by walk_at "lk"), (Rd.nil (⟨_, rfl, ?_⟩))⟩)))))))))
        with_reducible refine Rd.op (Rd.c (Rd.c (Rd.iC (by walk_at "scp") ?_)))
        refine Rd.i0 ?_
        rw [show ((10 : Int) ^ Int.toNat 40) = 10000000000000000000000000000000000000000 from by decide +kernel]
        with_reducible refine Rd.bl (Rd.iteT (by walk_at "bT") (Rd.test (Rd.op (Rd.smeth (Rd.c (⟨rfl, (Rd.cons (Rd.call (Rd.cons (Rd.var (by walk_at "vr") (Rd.nil ?_)))))⟩))))))
        refine ⟨_, _, _, _, rfl, (by walk_at "hp"), (by walk_at "sc"), (by walk_at "sc"), ?_⟩
        with_reducible refine Rd.nil ?_
        refine ⟨_, _, rfl, (by walk_at "sc"), (by walk_at "sc"), fun q29 dq29 H29 S29 r29 => ?_⟩
        with_reducible refine Rd.var (by walk_at "vr") (Own.ne2 (by walk_at "hp") (by walk_at "tyx") (by walk_at "nf") ?_)
        refine ⟨_, _, _, _, _, rfl, (by walk_at "hp"), .inl ⟨_, _, _, _, rfl, (by walk_at "hp"), ?_⟩⟩
        refine ⟨_, rfl, ?_⟩
        with_reducible refine Rd.bl (Rd.iteF (by walk_at "bF") (Rd.next ?_))
        refine ⟨by walk_at "hpl", ?_⟩
        refine Rd.unrNil ?_
        exact ⟨_, _, _, _, _, _, _, _, _, _, rfl, (by walk_at "frm")⟩
    · subst es
      with_reducible refine Rd.ret (Rd.c ?_)
      exact k _
end
theorem all_mk {l : PySem.W.OpenLaw} {w : World} {K : PySem.W.Frag} {h : Heap} {mg : Str → Option Value} {fa f_is_whole f_read_number f_Formu__initu_ f_as_form f_Formu__addu_ f_Formu__negu_ f_Formu__subu_ f_Formu__rsubu_ f_Formu__mulu_ f_Formu__rmulu_ f_Formu__equ_ f_place_of f_Formu__ltu_ f_Formu__leu_ f_Formu__gtu_ f_Formu__geu_ f_read_signed f_read_slope f_form_of_words f_show_slope f_show_form f_Form_read f_l_source f_l_draw f_l_form f_l_alike f_l_ordered f_law c_Form : Addr} (X : K.In h) (G : h.Ns mainGlobals mg) (hfa : mg "law" = some (.ref fa))
    {od_is_whole an_is_whole : Option Addr} {sl_is_whole : Array (Option Value)} {oc_is_whole kV_is_whole dc_is_whole pm_is_whole cd_is_whole ct_is_whole : Value}
    {od_read_number an_read_number : Option Addr} {sl_read_number : Array (Option Value)} {oc_read_number kV_read_number dc_read_number pm_read_number cd_read_number ct_read_number : Value}
    {od_Formu__initu_ an_Formu__initu_ : Option Addr} {sl_Formu__initu_ : Array (Option Value)} {oc_Formu__initu_ kV_Formu__initu_ dc_Formu__initu_ pm_Formu__initu_ cd_Formu__initu_ ct_Formu__initu_ : Value}
    {od_as_form an_as_form : Option Addr} {sl_as_form : Array (Option Value)} {oc_as_form kV_as_form dc_as_form pm_as_form cd_as_form ct_as_form : Value}
    {od_Formu__addu_ an_Formu__addu_ : Option Addr} {sl_Formu__addu_ : Array (Option Value)} {oc_Formu__addu_ kV_Formu__addu_ dc_Formu__addu_ pm_Formu__addu_ cd_Formu__addu_ ct_Formu__addu_ : Value}
    {od_Formu__negu_ an_Formu__negu_ : Option Addr} {sl_Formu__negu_ : Array (Option Value)} {oc_Formu__negu_ kV_Formu__negu_ dc_Formu__negu_ pm_Formu__negu_ cd_Formu__negu_ ct_Formu__negu_ : Value}
    {od_Formu__subu_ an_Formu__subu_ : Option Addr} {sl_Formu__subu_ : Array (Option Value)} {oc_Formu__subu_ kV_Formu__subu_ dc_Formu__subu_ pm_Formu__subu_ cd_Formu__subu_ ct_Formu__subu_ : Value}
    {od_Formu__rsubu_ an_Formu__rsubu_ : Option Addr} {sl_Formu__rsubu_ : Array (Option Value)} {oc_Formu__rsubu_ kV_Formu__rsubu_ dc_Formu__rsubu_ pm_Formu__rsubu_ cd_Formu__rsubu_ ct_Formu__rsubu_ : Value}
    {od_Formu__mulu_ an_Formu__mulu_ : Option Addr} {sl_Formu__mulu_ : Array (Option Value)} {oc_Formu__mulu_ kV_Formu__mulu_ dc_Formu__mulu_ pm_Formu__mulu_ cd_Formu__mulu_ ct_Formu__mulu_ : Value}
    {od_Formu__rmulu_ an_Formu__rmulu_ : Option Addr} {sl_Formu__rmulu_ : Array (Option Value)} {oc_Formu__rmulu_ kV_Formu__rmulu_ dc_Formu__rmulu_ pm_Formu__rmulu_ cd_Formu__rmulu_ ct_Formu__rmulu_ : Value}
    {od_Formu__equ_ an_Formu__equ_ : Option Addr} {sl_Formu__equ_ : Array (Option Value)} {oc_Formu__equ_ kV_Formu__equ_ dc_Formu__equ_ pm_Formu__equ_ cd_Formu__equ_ ct_Formu__equ_ : Value}
    {od_place_of an_place_of : Option Addr} {sl_place_of : Array (Option Value)} {oc_place_of kV_place_of dc_place_of pm_place_of cd_place_of ct_place_of : Value}
    {od_Formu__ltu_ an_Formu__ltu_ : Option Addr} {sl_Formu__ltu_ : Array (Option Value)} {oc_Formu__ltu_ kV_Formu__ltu_ dc_Formu__ltu_ pm_Formu__ltu_ cd_Formu__ltu_ ct_Formu__ltu_ : Value}
    {od_Formu__leu_ an_Formu__leu_ : Option Addr} {sl_Formu__leu_ : Array (Option Value)} {oc_Formu__leu_ kV_Formu__leu_ dc_Formu__leu_ pm_Formu__leu_ cd_Formu__leu_ ct_Formu__leu_ : Value}
    {od_Formu__gtu_ an_Formu__gtu_ : Option Addr} {sl_Formu__gtu_ : Array (Option Value)} {oc_Formu__gtu_ kV_Formu__gtu_ dc_Formu__gtu_ pm_Formu__gtu_ cd_Formu__gtu_ ct_Formu__gtu_ : Value}
    {od_Formu__geu_ an_Formu__geu_ : Option Addr} {sl_Formu__geu_ : Array (Option Value)} {oc_Formu__geu_ kV_Formu__geu_ dc_Formu__geu_ pm_Formu__geu_ cd_Formu__geu_ ct_Formu__geu_ : Value}
    {od_read_signed an_read_signed : Option Addr} {sl_read_signed : Array (Option Value)} {oc_read_signed kV_read_signed dc_read_signed pm_read_signed cd_read_signed ct_read_signed : Value}
    {od_read_slope an_read_slope : Option Addr} {sl_read_slope : Array (Option Value)} {oc_read_slope kV_read_slope dc_read_slope pm_read_slope cd_read_slope ct_read_slope : Value}
    {od_form_of_words an_form_of_words : Option Addr} {sl_form_of_words : Array (Option Value)} {oc_form_of_words kV_form_of_words dc_form_of_words pm_form_of_words cd_form_of_words ct_form_of_words : Value}
    {od_show_slope an_show_slope : Option Addr} {sl_show_slope : Array (Option Value)} {oc_show_slope kV_show_slope dc_show_slope pm_show_slope cd_show_slope ct_show_slope : Value}
    {od_show_form an_show_form : Option Addr} {sl_show_form : Array (Option Value)} {oc_show_form kV_show_form dc_show_form pm_show_form cd_show_form ct_show_form : Value}
    {od_Form_read an_Form_read : Option Addr} {sl_Form_read : Array (Option Value)} {oc_Form_read kV_Form_read dc_Form_read pm_Form_read cd_Form_read ct_Form_read : Value}
    {od_l_source an_l_source : Option Addr} {sl_l_source : Array (Option Value)} {oc_l_source kV_l_source dc_l_source pm_l_source cd_l_source ct_l_source : Value}
    {od_l_draw an_l_draw : Option Addr} {sl_l_draw : Array (Option Value)} {oc_l_draw kV_l_draw dc_l_draw pm_l_draw cd_l_draw ct_l_draw : Value}
    {od_l_form an_l_form : Option Addr} {sl_l_form : Array (Option Value)} {oc_l_form kV_l_form dc_l_form pm_l_form cd_l_form ct_l_form : Value}
    {od_l_alike an_l_alike : Option Addr} {sl_l_alike : Array (Option Value)} {oc_l_alike kV_l_alike dc_l_alike pm_l_alike cd_l_alike ct_l_alike : Value}
    {od_l_ordered an_l_ordered : Option Addr} {sl_l_ordered : Array (Option Value)} {oc_l_ordered kV_l_ordered dc_l_ordered pm_l_ordered cd_l_ordered ct_l_ordered : Value}
    {od_law an_law : Option Addr} {sl_law : Array (Option Value)} {oc_law kV_law dc_law pm_law cd_law ct_law : Value}
    {t_GREATEST_SIZE : Tok}
    {t_MOST_DIGITS : Tok}
    {ps_Form_read : Addr}
    {rs_Form_read : List Value}
    {rc_Formu__addu_ fo_Formu__addu_ ro_Formu__addu_ : Option Value}
    {rc_Formu__subu_ fo_Formu__subu_ ro_Formu__subu_ : Option Value}
    {l0_Formu__rsubu_ : Addr}
    {rc_Formu__mulu_ fo_Formu__mulu_ ro_Formu__mulu_ : Option Value}
    {l0_Formu__rmulu_ : Addr}
    (h_n_abs : PySem.W.nsIn K mainGlobals "abs" = some none)
    (h_n_bool : PySem.W.nsIn K mainGlobals "bool" = some none)
    (h_n_int : PySem.W.nsIn K mainGlobals "int" = some none)
    (h_n_isinstance : PySem.W.nsIn K mainGlobals "isinstance" = some none)
    (h_n_len : PySem.W.nsIn K mainGlobals "len" = some none)
    (h_n_max : PySem.W.nsIn K mainGlobals "max" = some none)
    (h_n_min : PySem.W.nsIn K mainGlobals "min" = some none)
    (h_n_range : PySem.W.nsIn K mainGlobals "range" = some none)
    (h_n_str : PySem.W.nsIn K mainGlobals "str" = some none)
    (h_m_GREATEST_SIZE : PySem.W.nsIn K mainGlobals "GREATEST_SIZE" = some (some (.int (1000000000000000000000000000000) t_GREATEST_SIZE)))
    (h_m_MOST_DIGITS : PySem.W.nsIn K mainGlobals "MOST_DIGITS" = some (some (.int (40) t_MOST_DIGITS)))
    (h_m_Form : PySem.W.nsIn K mainGlobals "Form" = some (some (.ref c_Form)))
    (h_n_Form_slope : PySem.W.findIn K (.ref c_Form) "slope" = some none)
    (h_n_Form_base : PySem.W.findIn K (.ref c_Form) "base" = some none)
    (h_m_is_whole : PySem.W.nsIn K mainGlobals "is_whole" = some (some (.ref f_is_whole)))
    (h_m_read_number : PySem.W.nsIn K mainGlobals "read_number" = some (some (.ref f_read_number)))
    (h_m_as_form : PySem.W.nsIn K mainGlobals "as_form" = some (some (.ref f_as_form)))
    (h_m_place_of : PySem.W.nsIn K mainGlobals "place_of" = some (some (.ref f_place_of)))
    (h_m_read_signed : PySem.W.nsIn K mainGlobals "read_signed" = some (some (.ref f_read_signed)))
    (h_m_read_slope : PySem.W.nsIn K mainGlobals "read_slope" = some (some (.ref f_read_slope)))
    (h_m_form_of_words : PySem.W.nsIn K mainGlobals "form_of_words" = some (some (.ref f_form_of_words)))
    (h_m_show_slope : PySem.W.nsIn K mainGlobals "show_slope" = some (some (.ref f_show_slope)))
    (h_m_show_form : PySem.W.nsIn K mainGlobals "show_form" = some (some (.ref f_show_form)))
    (h_m_l_source : PySem.W.nsIn K mainGlobals "_law_source" = some (some (.ref f_l_source)))
    (h_m_l_draw : PySem.W.nsIn K mainGlobals "_law_draw" = some (some (.ref f_l_draw)))
    (h_m_l_form : PySem.W.nsIn K mainGlobals "_law_form" = some (some (.ref f_l_form)))
    (h_m_l_alike : PySem.W.nsIn K mainGlobals "_law_alike" = some (some (.ref f_l_alike)))
    (h_m_l_ordered : PySem.W.nsIn K mainGlobals "_law_ordered" = some (some (.ref f_l_ordered)))
    (h_m_law : PySem.W.nsIn K mainGlobals "law" = some (some (.ref f_law)))
    (h_in_Form : PySem.W.findIn K (.ref c_Form) "__init__" = some (some (.ref f_Formu__initu_)))
    (h_a1_Form_read : PySem.W.findCls K (.ref c_Form) (.type "type") "read" = some (.get (.builtin "staticmethod.__get__") (.ref ps_Form_read) .none (.ref c_Form)))
    (h_bn_Formu__addu_ : PySem.W.findIn K (.ref c_Form) (PySem.dunder (Operator.info .Add).2) = some (some (.ref f_Formu__addu_)))
    (h_a_Formu__negu_ : PySem.W.findIn K (.ref c_Form) "__neg__" = some (some (.ref f_Formu__negu_)))
    (h_bn_Formu__subu_ : PySem.W.findIn K (.ref c_Form) (PySem.dunder (Operator.info .Sub).2) = some (some (.ref f_Formu__subu_)))
    (h_br_Formu__rsubu_ : PySem.W.findIn K (.ref c_Form) (dunderR (Operator.info .Sub).2) = some (some (.ref f_Formu__rsubu_)))
    (h_bn_Formu__mulu_ : PySem.W.findIn K (.ref c_Form) (PySem.dunder (Operator.info .Mult).2) = some (some (.ref f_Formu__mulu_)))
    (h_br_Formu__rmulu_ : PySem.W.findIn K (.ref c_Form) (dunderR (Operator.info .Mult).2) = some (some (.ref f_Formu__rmulu_)))
    (h_a_Formu__equ_ : PySem.W.findIn K (.ref c_Form) "__eq__" = some (some (.ref f_Formu__equ_)))
    (h_a_Formu__ltu_ : PySem.W.findIn K (.ref c_Form) "__lt__" = some (some (.ref f_Formu__ltu_)))
    (h_a_Formu__leu_ : PySem.W.findIn K (.ref c_Form) "__le__" = some (some (.ref f_Formu__leu_)))
    (h_a_Formu__gtu_ : PySem.W.findIn K (.ref c_Form) "__gt__" = some (some (.ref f_Formu__gtu_)))
    (h_a_Formu__geu_ : PySem.W.findIn K (.ref c_Form) "__ge__" = some (some (.ref f_Formu__geu_)))
    (h_a2_Form_read : PySem.W.recIn K ps_Form_read "staticmethod" = some (.ref f_Form_read :: rs_Form_read))
    (h_l_is_whole : K.lookup f_is_whole = some ⟨oc_is_whole, od_is_whole, .func (PySem.W.fnOf "is_whole" "is_whole" (defArgs s_is_whole) (defBody s_is_whole) (defScope s_is_whole) .none kV_is_whole dc_is_whole pm_is_whole an_is_whole cd_is_whole ct_is_whole), sl_is_whole⟩)
    (h_l_read_number : K.lookup f_read_number = some ⟨oc_read_number, od_read_number, .func (PySem.W.fnOf "read_number" "read_number" (defArgs s_read_number) (defBody s_read_number) (defScope s_read_number) .none kV_read_number dc_read_number pm_read_number an_read_number cd_read_number ct_read_number), sl_read_number⟩)
    (h_l_Formu__initu_ : K.lookup f_Formu__initu_ = some ⟨oc_Formu__initu_, od_Formu__initu_, .func (PySem.W.fnOf "__init__" "Form.__init__" (defArgs s_Formu__initu_) (defBody s_Formu__initu_) (defScope s_Formu__initu_) .none kV_Formu__initu_ dc_Formu__initu_ pm_Formu__initu_ an_Formu__initu_ cd_Formu__initu_ ct_Formu__initu_), sl_Formu__initu_⟩)
    (h_l_as_form : K.lookup f_as_form = some ⟨oc_as_form, od_as_form, .func (PySem.W.fnOf "as_form" "as_form" (defArgs s_as_form) (defBody s_as_form) (defScope s_as_form) .none kV_as_form dc_as_form pm_as_form an_as_form cd_as_form ct_as_form), sl_as_form⟩)
    (h_l_Formu__addu_ : K.lookup f_Formu__addu_ = some ⟨oc_Formu__addu_, od_Formu__addu_, .func (PySem.W.fnOf "__add__" "Form.__add__" (defArgs s_Formu__addu_) (defBody s_Formu__addu_) (defScope s_Formu__addu_) .none kV_Formu__addu_ dc_Formu__addu_ pm_Formu__addu_ an_Formu__addu_ cd_Formu__addu_ ct_Formu__addu_), sl_Formu__addu_⟩)
    (h_l_Formu__negu_ : K.lookup f_Formu__negu_ = some ⟨oc_Formu__negu_, od_Formu__negu_, .func (PySem.W.fnOf "__neg__" "Form.__neg__" (defArgs s_Formu__negu_) (defBody s_Formu__negu_) (defScope s_Formu__negu_) .none kV_Formu__negu_ dc_Formu__negu_ pm_Formu__negu_ an_Formu__negu_ cd_Formu__negu_ ct_Formu__negu_), sl_Formu__negu_⟩)
    (h_l_Formu__subu_ : K.lookup f_Formu__subu_ = some ⟨oc_Formu__subu_, od_Formu__subu_, .func (PySem.W.fnOf "__sub__" "Form.__sub__" (defArgs s_Formu__subu_) (defBody s_Formu__subu_) (defScope s_Formu__subu_) .none kV_Formu__subu_ dc_Formu__subu_ pm_Formu__subu_ an_Formu__subu_ cd_Formu__subu_ ct_Formu__subu_), sl_Formu__subu_⟩)
    (h_l_Formu__rsubu_ : K.lookup f_Formu__rsubu_ = some ⟨oc_Formu__rsubu_, od_Formu__rsubu_, .func (PySem.W.fnOf "__rsub__" "Form.__rsub__" (defArgs s_Formu__rsubu_) (defBody s_Formu__rsubu_) (defScope s_Formu__rsubu_) .none kV_Formu__rsubu_ dc_Formu__rsubu_ pm_Formu__rsubu_ an_Formu__rsubu_ cd_Formu__rsubu_ ct_Formu__rsubu_), sl_Formu__rsubu_⟩)
    (h_l_Formu__mulu_ : K.lookup f_Formu__mulu_ = some ⟨oc_Formu__mulu_, od_Formu__mulu_, .func (PySem.W.fnOf "__mul__" "Form.__mul__" (defArgs s_Formu__mulu_) (defBody s_Formu__mulu_) (defScope s_Formu__mulu_) .none kV_Formu__mulu_ dc_Formu__mulu_ pm_Formu__mulu_ an_Formu__mulu_ cd_Formu__mulu_ ct_Formu__mulu_), sl_Formu__mulu_⟩)
    (h_l_Formu__rmulu_ : K.lookup f_Formu__rmulu_ = some ⟨oc_Formu__rmulu_, od_Formu__rmulu_, .func (PySem.W.fnOf "__rmul__" "Form.__rmul__" (defArgs s_Formu__rmulu_) (defBody s_Formu__rmulu_) (defScope s_Formu__rmulu_) .none kV_Formu__rmulu_ dc_Formu__rmulu_ pm_Formu__rmulu_ an_Formu__rmulu_ cd_Formu__rmulu_ ct_Formu__rmulu_), sl_Formu__rmulu_⟩)
    (h_l_Formu__equ_ : K.lookup f_Formu__equ_ = some ⟨oc_Formu__equ_, od_Formu__equ_, .func (PySem.W.fnOf "__eq__" "Form.__eq__" (defArgs s_Formu__equ_) (defBody s_Formu__equ_) (defScope s_Formu__equ_) .none kV_Formu__equ_ dc_Formu__equ_ pm_Formu__equ_ an_Formu__equ_ cd_Formu__equ_ ct_Formu__equ_), sl_Formu__equ_⟩)
    (h_l_place_of : K.lookup f_place_of = some ⟨oc_place_of, od_place_of, .func (PySem.W.fnOf "place_of" "place_of" (defArgs s_place_of) (defBody s_place_of) (defScope s_place_of) .none kV_place_of dc_place_of pm_place_of an_place_of cd_place_of ct_place_of), sl_place_of⟩)
    (h_l_Formu__ltu_ : K.lookup f_Formu__ltu_ = some ⟨oc_Formu__ltu_, od_Formu__ltu_, .func (PySem.W.fnOf "__lt__" "Form.__lt__" (defArgs s_Formu__ltu_) (defBody s_Formu__ltu_) (defScope s_Formu__ltu_) .none kV_Formu__ltu_ dc_Formu__ltu_ pm_Formu__ltu_ an_Formu__ltu_ cd_Formu__ltu_ ct_Formu__ltu_), sl_Formu__ltu_⟩)
    (h_l_Formu__leu_ : K.lookup f_Formu__leu_ = some ⟨oc_Formu__leu_, od_Formu__leu_, .func (PySem.W.fnOf "__le__" "Form.__le__" (defArgs s_Formu__leu_) (defBody s_Formu__leu_) (defScope s_Formu__leu_) .none kV_Formu__leu_ dc_Formu__leu_ pm_Formu__leu_ an_Formu__leu_ cd_Formu__leu_ ct_Formu__leu_), sl_Formu__leu_⟩)
    (h_l_Formu__gtu_ : K.lookup f_Formu__gtu_ = some ⟨oc_Formu__gtu_, od_Formu__gtu_, .func (PySem.W.fnOf "__gt__" "Form.__gt__" (defArgs s_Formu__gtu_) (defBody s_Formu__gtu_) (defScope s_Formu__gtu_) .none kV_Formu__gtu_ dc_Formu__gtu_ pm_Formu__gtu_ an_Formu__gtu_ cd_Formu__gtu_ ct_Formu__gtu_), sl_Formu__gtu_⟩)
    (h_l_Formu__geu_ : K.lookup f_Formu__geu_ = some ⟨oc_Formu__geu_, od_Formu__geu_, .func (PySem.W.fnOf "__ge__" "Form.__ge__" (defArgs s_Formu__geu_) (defBody s_Formu__geu_) (defScope s_Formu__geu_) .none kV_Formu__geu_ dc_Formu__geu_ pm_Formu__geu_ an_Formu__geu_ cd_Formu__geu_ ct_Formu__geu_), sl_Formu__geu_⟩)
    (h_l_read_signed : K.lookup f_read_signed = some ⟨oc_read_signed, od_read_signed, .func (PySem.W.fnOf "read_signed" "read_signed" (defArgs s_read_signed) (defBody s_read_signed) (defScope s_read_signed) .none kV_read_signed dc_read_signed pm_read_signed an_read_signed cd_read_signed ct_read_signed), sl_read_signed⟩)
    (h_l_read_slope : K.lookup f_read_slope = some ⟨oc_read_slope, od_read_slope, .func (PySem.W.fnOf "read_slope" "read_slope" (defArgs s_read_slope) (defBody s_read_slope) (defScope s_read_slope) .none kV_read_slope dc_read_slope pm_read_slope an_read_slope cd_read_slope ct_read_slope), sl_read_slope⟩)
    (h_l_form_of_words : K.lookup f_form_of_words = some ⟨oc_form_of_words, od_form_of_words, .func (PySem.W.fnOf "form_of_words" "form_of_words" (defArgs s_form_of_words) (defBody s_form_of_words) (defScope s_form_of_words) .none kV_form_of_words dc_form_of_words pm_form_of_words an_form_of_words cd_form_of_words ct_form_of_words), sl_form_of_words⟩)
    (h_l_show_slope : K.lookup f_show_slope = some ⟨oc_show_slope, od_show_slope, .func (PySem.W.fnOf "show_slope" "show_slope" (defArgs s_show_slope) (defBody s_show_slope) (defScope s_show_slope) .none kV_show_slope dc_show_slope pm_show_slope an_show_slope cd_show_slope ct_show_slope), sl_show_slope⟩)
    (h_l_show_form : K.lookup f_show_form = some ⟨oc_show_form, od_show_form, .func (PySem.W.fnOf "show_form" "show_form" (defArgs s_show_form) (defBody s_show_form) (defScope s_show_form) .none kV_show_form dc_show_form pm_show_form an_show_form cd_show_form ct_show_form), sl_show_form⟩)
    (h_l_Form_read : K.lookup f_Form_read = some ⟨oc_Form_read, od_Form_read, .func (PySem.W.fnOf "read" "Form.read" (defArgs s_Form_read) (defBody s_Form_read) (defScope s_Form_read) .none kV_Form_read dc_Form_read pm_Form_read an_Form_read cd_Form_read ct_Form_read), sl_Form_read⟩)
    (h_l_l_source : K.lookup f_l_source = some ⟨oc_l_source, od_l_source, .func (PySem.W.fnOf "_law_source" "_law_source" (defArgs s_l_source) (defBody s_l_source) (defScope s_l_source) .none kV_l_source dc_l_source pm_l_source an_l_source cd_l_source ct_l_source), sl_l_source⟩)
    (h_l_l_draw : K.lookup f_l_draw = some ⟨oc_l_draw, od_l_draw, .func (PySem.W.fnOf "_law_draw" "_law_draw" (defArgs s_l_draw) (defBody s_l_draw) (defScope s_l_draw) .none kV_l_draw dc_l_draw pm_l_draw an_l_draw cd_l_draw ct_l_draw), sl_l_draw⟩)
    (h_l_l_form : K.lookup f_l_form = some ⟨oc_l_form, od_l_form, .func (PySem.W.fnOf "_law_form" "_law_form" (defArgs s_l_form) (defBody s_l_form) (defScope s_l_form) .none kV_l_form dc_l_form pm_l_form an_l_form cd_l_form ct_l_form), sl_l_form⟩)
    (h_l_l_alike : K.lookup f_l_alike = some ⟨oc_l_alike, od_l_alike, .func (PySem.W.fnOf "_law_alike" "_law_alike" (defArgs s_l_alike) (defBody s_l_alike) (defScope s_l_alike) .none kV_l_alike dc_l_alike pm_l_alike an_l_alike cd_l_alike ct_l_alike), sl_l_alike⟩)
    (h_l_l_ordered : K.lookup f_l_ordered = some ⟨oc_l_ordered, od_l_ordered, .func (PySem.W.fnOf "_law_ordered" "_law_ordered" (defArgs s_l_ordered) (defBody s_l_ordered) (defScope s_l_ordered) .none kV_l_ordered dc_l_ordered pm_l_ordered an_l_ordered cd_l_ordered ct_l_ordered), sl_l_ordered⟩)
    (h_l_law : K.lookup f_law = some ⟨oc_law, od_law, .func (PySem.W.fnOf "law" "law" (defArgs s_law) (defBody s_law) (defScope s_law) .none kV_law dc_law pm_law an_law cd_law ct_law), sl_law⟩)
    (h_pg_Form : PySem.W.plainGet K c_Form Str.empty = true)
    (h_hd_Form : PySem.W.hasDictIn K c_Form = true)
    (h_po_Form : PySem.W.plainOver K c_Form = true)
    (h_sa_Form : PySem.W.findIn K (.ref c_Form) "__setattr__" = some (some (.builtin "object.__setattr__")))
    (h_mk_Form : PySem.W.makesIn K c_Form = true)
    (h_ii_Form : PySem.W.isFn K (.ref f_Formu__initu_) = true)
    (h_kp_Form : PySem.W.keepIn K (.ref c_Form) = true)
    (h_ha_Form : PySem.W.findIn K (.ref c_Form) "__class__" = some (some (.builtin "object.__class__")))
    (h_mo_Form : PySem.W.mroIn K c_Form (.type "object") = some true)
    (h_hn_Form : PySem.W.specialIn K (.builtin "object.__class__") "__get__" = some (some (.builtin "getset_descriptor.__get__")))
    (h_htk_Form : PySem.W.takesIn K (.builtin "object.__class__") = some true)
    (h_kt_Form_Form : PySem.W.kitOne K (.ref c_Form) (.ref c_Form) = some true)
    (h_kt_int_Form : PySem.W.kitOne K (.type "int") (.ref c_Form) = some false)
    (h_c_is_whole : PySem.W.codeIn K cd_is_whole "is_whole" = true)
    (h_k_is_whole : PySem.W.keepIn K (.ref f_is_whole) = true)
    (h_c_read_number : PySem.W.codeIn K cd_read_number "read_number" = true)
    (h_k_read_number : PySem.W.keepIn K (.ref f_read_number) = true)
    (h_c_Formu__initu_ : PySem.W.codeIn K cd_Formu__initu_ "Form.__init__" = true)
    (h_k_Formu__initu_ : PySem.W.keepIn K (.ref f_Formu__initu_) = true)
    (h_c_as_form : PySem.W.codeIn K cd_as_form "as_form" = true)
    (h_k_as_form : PySem.W.keepIn K (.ref f_as_form) = true)
    (h_c_Formu__addu_ : PySem.W.codeIn K cd_Formu__addu_ "Form.__add__" = true)
    (h_k_Formu__addu_ : PySem.W.keepIn K (.ref f_Formu__addu_) = true)
    (h_c_Formu__negu_ : PySem.W.codeIn K cd_Formu__negu_ "Form.__neg__" = true)
    (h_k_Formu__negu_ : PySem.W.keepIn K (.ref f_Formu__negu_) = true)
    (h_c_Formu__subu_ : PySem.W.codeIn K cd_Formu__subu_ "Form.__sub__" = true)
    (h_k_Formu__subu_ : PySem.W.keepIn K (.ref f_Formu__subu_) = true)
    (h_c_Formu__rsubu_ : PySem.W.codeIn K cd_Formu__rsubu_ "Form.__rsub__" = true)
    (h_k_Formu__rsubu_ : PySem.W.keepIn K (.ref f_Formu__rsubu_) = true)
    (h_c_Formu__mulu_ : PySem.W.codeIn K cd_Formu__mulu_ "Form.__mul__" = true)
    (h_k_Formu__mulu_ : PySem.W.keepIn K (.ref f_Formu__mulu_) = true)
    (h_c_Formu__rmulu_ : PySem.W.codeIn K cd_Formu__rmulu_ "Form.__rmul__" = true)
    (h_k_Formu__rmulu_ : PySem.W.keepIn K (.ref f_Formu__rmulu_) = true)
    (h_c_Formu__equ_ : PySem.W.codeIn K cd_Formu__equ_ "Form.__eq__" = true)
    (h_k_Formu__equ_ : PySem.W.keepIn K (.ref f_Formu__equ_) = true)
    (h_c_place_of : PySem.W.codeIn K cd_place_of "place_of" = true)
    (h_k_place_of : PySem.W.keepIn K (.ref f_place_of) = true)
    (h_c_Formu__ltu_ : PySem.W.codeIn K cd_Formu__ltu_ "Form.__lt__" = true)
    (h_k_Formu__ltu_ : PySem.W.keepIn K (.ref f_Formu__ltu_) = true)
    (h_c_Formu__leu_ : PySem.W.codeIn K cd_Formu__leu_ "Form.__le__" = true)
    (h_k_Formu__leu_ : PySem.W.keepIn K (.ref f_Formu__leu_) = true)
    (h_c_Formu__gtu_ : PySem.W.codeIn K cd_Formu__gtu_ "Form.__gt__" = true)
    (h_k_Formu__gtu_ : PySem.W.keepIn K (.ref f_Formu__gtu_) = true)
    (h_c_Formu__geu_ : PySem.W.codeIn K cd_Formu__geu_ "Form.__ge__" = true)
    (h_k_Formu__geu_ : PySem.W.keepIn K (.ref f_Formu__geu_) = true)
    (h_c_read_signed : PySem.W.codeIn K cd_read_signed "read_signed" = true)
    (h_k_read_signed : PySem.W.keepIn K (.ref f_read_signed) = true)
    (h_c_read_slope : PySem.W.codeIn K cd_read_slope "read_slope" = true)
    (h_k_read_slope : PySem.W.keepIn K (.ref f_read_slope) = true)
    (h_c_form_of_words : PySem.W.codeIn K cd_form_of_words "form_of_words" = true)
    (h_k_form_of_words : PySem.W.keepIn K (.ref f_form_of_words) = true)
    (h_c_show_slope : PySem.W.codeIn K cd_show_slope "show_slope" = true)
    (h_k_show_slope : PySem.W.keepIn K (.ref f_show_slope) = true)
    (h_c_show_form : PySem.W.codeIn K cd_show_form "show_form" = true)
    (h_k_show_form : PySem.W.keepIn K (.ref f_show_form) = true)
    (h_rd_Form : PySem.W.readsIn K c_Form (.type "type") = true)
    (h_ga_Form : PySem.W.specialIn K (.ref c_Form) "__getattribute__" = some (some (.builtin "type.__getattribute__")))
    (h_c_Form_read : PySem.W.codeIn K cd_Form_read "Form.read" = true)
    (h_k_Form_read : PySem.W.keepIn K (.ref f_Form_read) = true)
    (h_c_l_source : PySem.W.codeIn K cd_l_source "_law_source" = true)
    (h_k_l_source : PySem.W.keepIn K (.ref f_l_source) = true)
    (h_c_l_draw : PySem.W.codeIn K cd_l_draw "_law_draw" = true)
    (h_k_l_draw : PySem.W.keepIn K (.ref f_l_draw) = true)
    (h_c_l_form : PySem.W.codeIn K cd_l_form "_law_form" = true)
    (h_k_l_form : PySem.W.keepIn K (.ref f_l_form) = true)
    (h_c_l_alike : PySem.W.codeIn K cd_l_alike "_law_alike" = true)
    (h_k_l_alike : PySem.W.keepIn K (.ref f_l_alike) = true)
    (h_c_l_ordered : PySem.W.codeIn K cd_l_ordered "_law_ordered" = true)
    (h_k_l_ordered : PySem.W.keepIn K (.ref f_l_ordered) = true)
    (h_c_law : PySem.W.codeIn K cd_law "law" = true)
    (h_k_law : PySem.W.keepIn K (.ref f_law) = true)
    (h_sf_Form : PySem.W.selfFirst K c_Form = true)
    (h_i_Formu__addu_ : PySem.W.isFn K (.ref f_Formu__addu_) = true)
    (h_rc_Formu__addu_ : PySem.W.findIn K (.ref c_Form) (dunderR (Operator.info .Add).2) = some rc_Formu__addu_)
    (h_rp_Formu__addu_ : rc_Formu__addu_ = none ∨ ∃ g : Addr, rc_Formu__addu_ = some (.ref g))
    (h_fo_Formu__addu_ : PySem.W.findIn K (.type "int") (PySem.dunder (Operator.info .Add).2) = some fo_Formu__addu_)
    (h_ro_Formu__addu_ : PySem.W.findIn K (.type "int") (dunderR (Operator.info .Add).2) = some ro_Formu__addu_)
    (h_su_Form : PySem.W.subIn K (.type "int") (.ref c_Form) = some false)
    (h_i_Formu__negu_ : PySem.W.isFn K (.ref f_Formu__negu_) = true)
    (h_i_Formu__subu_ : PySem.W.isFn K (.ref f_Formu__subu_) = true)
    (h_rc_Formu__subu_ : PySem.W.findIn K (.ref c_Form) (dunderR (Operator.info .Sub).2) = some rc_Formu__subu_)
    (h_rp_Formu__subu_ : rc_Formu__subu_ = none ∨ ∃ g : Addr, rc_Formu__subu_ = some (.ref g))
    (h_fo_Formu__subu_ : PySem.W.findIn K (.type "int") (PySem.dunder (Operator.info .Sub).2) = some fo_Formu__subu_)
    (h_ro_Formu__subu_ : PySem.W.findIn K (.type "int") (dunderR (Operator.info .Sub).2) = some ro_Formu__subu_)
    (h_l0_Formu__rsubu_ : PySem.W.findIn K (.ref c_Form) (PySem.dunder (Operator.info .Sub).2) = some (some (.ref l0_Formu__rsubu_)))
    (h_i_Formu__rsubu_ : PySem.W.isFn K (.ref f_Formu__rsubu_) = true)
    (h_sv_Form : PySem.W.subIn K (.ref c_Form) (.type "int") = some false)
    (h_i_Formu__mulu_ : PySem.W.isFn K (.ref f_Formu__mulu_) = true)
    (h_rc_Formu__mulu_ : PySem.W.findIn K (.ref c_Form) (dunderR (Operator.info .Mult).2) = some rc_Formu__mulu_)
    (h_rp_Formu__mulu_ : rc_Formu__mulu_ = none ∨ ∃ g : Addr, rc_Formu__mulu_ = some (.ref g))
    (h_fo_Formu__mulu_ : PySem.W.findIn K (.type "int") (PySem.dunder (Operator.info .Mult).2) = some fo_Formu__mulu_)
    (h_ro_Formu__mulu_ : PySem.W.findIn K (.type "int") (dunderR (Operator.info .Mult).2) = some ro_Formu__mulu_)
    (h_l0_Formu__rmulu_ : PySem.W.findIn K (.ref c_Form) (PySem.dunder (Operator.info .Mult).2) = some (some (.ref l0_Formu__rmulu_)))
    (h_i_Formu__rmulu_ : PySem.W.isFn K (.ref f_Formu__rmulu_) = true)
    (h_i_Formu__equ_ : PySem.W.isFn K (.ref f_Formu__equ_) = true)
    (h_ne_Formu__equ_ : PySem.W.findIn K (.ref c_Form) "__ne__" = some (some (.builtin "object.__ne__")))
    (h_ob_Formu__equ_ : PySem.W.subIn K (.ref c_Form) (.type "object") = some true)
    (h_i_Formu__ltu_ : PySem.W.isFn K (.ref f_Formu__ltu_) = true)
    (h_i_Formu__leu_ : PySem.W.isFn K (.ref f_Formu__leu_) = true)
    (h_i_Formu__gtu_ : PySem.W.isFn K (.ref f_Formu__gtu_) = true)
    (h_i_Formu__geu_ : PySem.W.isFn K (.ref f_Formu__geu_) = true)
    (h_nf_Form_Form : PySem.W.notFirst K c_Form (.ref c_Form) = true)
    (h_nf_int_Form : PySem.W.notFirst K c_Form (.type "int") = true)
    : ∃ fd : FuncData, (∀ (s : Shared) (v : Value), BindsTo s fd ⟨[v], []⟩ [("_law_script", v)]) ∧ ∀ base : Heap, K.In base → base.Ns mainGlobals mg → FnOk l.prog w K mg base CX0 8 fa fd ["_law_script"] (sp_law K) := by
  have e := hfa.symm.trans (PySem.W.mg_of X G h_m_law)
  cases e
  have T : Txt w K mg ⟨f_is_whole, (PySem.W.fnOf "is_whole" "is_whole" (defArgs s_is_whole) (defBody s_is_whole) (defScope s_is_whole) .none kV_is_whole dc_is_whole pm_is_whole an_is_whole cd_is_whole ct_is_whole), f_read_number, (PySem.W.fnOf "read_number" "read_number" (defArgs s_read_number) (defBody s_read_number) (defScope s_read_number) .none kV_read_number dc_read_number pm_read_number an_read_number cd_read_number ct_read_number), f_Formu__initu_, (PySem.W.fnOf "__init__" "Form.__init__" (defArgs s_Formu__initu_) (defBody s_Formu__initu_) (defScope s_Formu__initu_) .none kV_Formu__initu_ dc_Formu__initu_ pm_Formu__initu_ an_Formu__initu_ cd_Formu__initu_ ct_Formu__initu_), f_as_form, (PySem.W.fnOf "as_form" "as_form" (defArgs s_as_form) (defBody s_as_form) (defScope s_as_form) .none kV_as_form dc_as_form pm_as_form an_as_form cd_as_form ct_as_form), f_Formu__addu_, (PySem.W.fnOf "__add__" "Form.__add__" (defArgs s_Formu__addu_) (defBody s_Formu__addu_) (defScope s_Formu__addu_) .none kV_Formu__addu_ dc_Formu__addu_ pm_Formu__addu_ an_Formu__addu_ cd_Formu__addu_ ct_Formu__addu_), f_Formu__negu_, (PySem.W.fnOf "__neg__" "Form.__neg__" (defArgs s_Formu__negu_) (defBody s_Formu__negu_) (defScope s_Formu__negu_) .none kV_Formu__negu_ dc_Formu__negu_ pm_Formu__negu_ an_Formu__negu_ cd_Formu__negu_ ct_Formu__negu_), f_Formu__subu_, (PySem.W.fnOf "__sub__" "Form.__sub__" (defArgs s_Formu__subu_) (defBody s_Formu__subu_) (defScope s_Formu__subu_) .none kV_Formu__subu_ dc_Formu__subu_ pm_Formu__subu_ an_Formu__subu_ cd_Formu__subu_ ct_Formu__subu_), f_Formu__rsubu_, (PySem.W.fnOf "__rsub__" "Form.__rsub__" (defArgs s_Formu__rsubu_) (defBody s_Formu__rsubu_) (defScope s_Formu__rsubu_) .none kV_Formu__rsubu_ dc_Formu__rsubu_ pm_Formu__rsubu_ an_Formu__rsubu_ cd_Formu__rsubu_ ct_Formu__rsubu_), f_Formu__mulu_, (PySem.W.fnOf "__mul__" "Form.__mul__" (defArgs s_Formu__mulu_) (defBody s_Formu__mulu_) (defScope s_Formu__mulu_) .none kV_Formu__mulu_ dc_Formu__mulu_ pm_Formu__mulu_ an_Formu__mulu_ cd_Formu__mulu_ ct_Formu__mulu_), f_Formu__rmulu_, (PySem.W.fnOf "__rmul__" "Form.__rmul__" (defArgs s_Formu__rmulu_) (defBody s_Formu__rmulu_) (defScope s_Formu__rmulu_) .none kV_Formu__rmulu_ dc_Formu__rmulu_ pm_Formu__rmulu_ an_Formu__rmulu_ cd_Formu__rmulu_ ct_Formu__rmulu_), f_Formu__equ_, (PySem.W.fnOf "__eq__" "Form.__eq__" (defArgs s_Formu__equ_) (defBody s_Formu__equ_) (defScope s_Formu__equ_) .none kV_Formu__equ_ dc_Formu__equ_ pm_Formu__equ_ an_Formu__equ_ cd_Formu__equ_ ct_Formu__equ_), f_place_of, (PySem.W.fnOf "place_of" "place_of" (defArgs s_place_of) (defBody s_place_of) (defScope s_place_of) .none kV_place_of dc_place_of pm_place_of an_place_of cd_place_of ct_place_of), f_Formu__ltu_, (PySem.W.fnOf "__lt__" "Form.__lt__" (defArgs s_Formu__ltu_) (defBody s_Formu__ltu_) (defScope s_Formu__ltu_) .none kV_Formu__ltu_ dc_Formu__ltu_ pm_Formu__ltu_ an_Formu__ltu_ cd_Formu__ltu_ ct_Formu__ltu_), f_Formu__leu_, (PySem.W.fnOf "__le__" "Form.__le__" (defArgs s_Formu__leu_) (defBody s_Formu__leu_) (defScope s_Formu__leu_) .none kV_Formu__leu_ dc_Formu__leu_ pm_Formu__leu_ an_Formu__leu_ cd_Formu__leu_ ct_Formu__leu_), f_Formu__gtu_, (PySem.W.fnOf "__gt__" "Form.__gt__" (defArgs s_Formu__gtu_) (defBody s_Formu__gtu_) (defScope s_Formu__gtu_) .none kV_Formu__gtu_ dc_Formu__gtu_ pm_Formu__gtu_ an_Formu__gtu_ cd_Formu__gtu_ ct_Formu__gtu_), f_Formu__geu_, (PySem.W.fnOf "__ge__" "Form.__ge__" (defArgs s_Formu__geu_) (defBody s_Formu__geu_) (defScope s_Formu__geu_) .none kV_Formu__geu_ dc_Formu__geu_ pm_Formu__geu_ an_Formu__geu_ cd_Formu__geu_ ct_Formu__geu_), f_read_signed, (PySem.W.fnOf "read_signed" "read_signed" (defArgs s_read_signed) (defBody s_read_signed) (defScope s_read_signed) .none kV_read_signed dc_read_signed pm_read_signed an_read_signed cd_read_signed ct_read_signed), f_read_slope, (PySem.W.fnOf "read_slope" "read_slope" (defArgs s_read_slope) (defBody s_read_slope) (defScope s_read_slope) .none kV_read_slope dc_read_slope pm_read_slope an_read_slope cd_read_slope ct_read_slope), f_form_of_words, (PySem.W.fnOf "form_of_words" "form_of_words" (defArgs s_form_of_words) (defBody s_form_of_words) (defScope s_form_of_words) .none kV_form_of_words dc_form_of_words pm_form_of_words an_form_of_words cd_form_of_words ct_form_of_words), f_show_slope, (PySem.W.fnOf "show_slope" "show_slope" (defArgs s_show_slope) (defBody s_show_slope) (defScope s_show_slope) .none kV_show_slope dc_show_slope pm_show_slope an_show_slope cd_show_slope ct_show_slope), f_show_form, (PySem.W.fnOf "show_form" "show_form" (defArgs s_show_form) (defBody s_show_form) (defScope s_show_form) .none kV_show_form dc_show_form pm_show_form an_show_form cd_show_form ct_show_form), f_Form_read, (PySem.W.fnOf "read" "Form.read" (defArgs s_Form_read) (defBody s_Form_read) (defScope s_Form_read) .none kV_Form_read dc_Form_read pm_Form_read an_Form_read cd_Form_read ct_Form_read), f_l_source, (PySem.W.fnOf "_law_source" "_law_source" (defArgs s_l_source) (defBody s_l_source) (defScope s_l_source) .none kV_l_source dc_l_source pm_l_source an_l_source cd_l_source ct_l_source), f_l_draw, (PySem.W.fnOf "_law_draw" "_law_draw" (defArgs s_l_draw) (defBody s_l_draw) (defScope s_l_draw) .none kV_l_draw dc_l_draw pm_l_draw an_l_draw cd_l_draw ct_l_draw), f_l_form, (PySem.W.fnOf "_law_form" "_law_form" (defArgs s_l_form) (defBody s_l_form) (defScope s_l_form) .none kV_l_form dc_l_form pm_l_form an_l_form cd_l_form ct_l_form), f_l_alike, (PySem.W.fnOf "_law_alike" "_law_alike" (defArgs s_l_alike) (defBody s_l_alike) (defScope s_l_alike) .none kV_l_alike dc_l_alike pm_l_alike an_l_alike cd_l_alike ct_l_alike), f_l_ordered, (PySem.W.fnOf "_law_ordered" "_law_ordered" (defArgs s_l_ordered) (defBody s_l_ordered) (defScope s_l_ordered) .none kV_l_ordered dc_l_ordered pm_l_ordered an_l_ordered cd_l_ordered ct_l_ordered), fa, (PySem.W.fnOf "law" "law" (defArgs s_law) (defBody s_law) (defScope s_law) .none kV_law dc_law pm_law an_law cd_law ct_law), c_Form, t_GREATEST_SIZE, t_MOST_DIGITS⟩ := {
    n_abs := PySem.W.mg_none_of X G h_n_abs,
    n_bool := PySem.W.mg_none_of X G h_n_bool,
    n_int := PySem.W.mg_none_of X G h_n_int,
    n_isinstance := PySem.W.mg_none_of X G h_n_isinstance,
    n_len := PySem.W.mg_none_of X G h_n_len,
    n_max := PySem.W.mg_none_of X G h_n_max,
    n_min := PySem.W.mg_none_of X G h_n_min,
    n_range := PySem.W.mg_none_of X G h_n_range,
    n_str := PySem.W.mg_none_of X G h_n_str,
    m_GREATEST_SIZE := PySem.W.mg_of X G h_m_GREATEST_SIZE,
    m_MOST_DIGITS := PySem.W.mg_of X G h_m_MOST_DIGITS,
    m_Form := PySem.W.mg_of X G h_m_Form,
    k_Form := ⟨h_pg_Form, h_hd_Form, h_po_Form, h_sa_Form⟩,
    n_Form_slope := h_n_Form_slope,
    n_Form_base := h_n_Form_base,
    K_Form := ⟨h_mk_Form, h_in_Form, h_ii_Form, h_kp_Form⟩,
    i_Form := ⟨h_ha_Form, h_hn_Form, h_htk_Form, h_mo_Form⟩,
    kt_Form_Form := h_kt_Form_Form,
    kt_int_Form := h_kt_int_Form,
    m_is_whole := PySem.W.mg_of X G h_m_is_whole,
    F_is_whole := fun_mk (st := s_is_whole) h_l_is_whole h_c_is_whole h_k_is_whole,
    b_is_whole := (fun_mk (st := s_is_whole) h_l_is_whole h_c_is_whole h_k_is_whole).binds fun _ _ _ _ _ _ us hl => match us, hl with | [_], _ => rfl,
    m_read_number := PySem.W.mg_of X G h_m_read_number,
    F_read_number := fun_mk (st := s_read_number) h_l_read_number h_c_read_number h_k_read_number,
    b_read_number := (fun_mk (st := s_read_number) h_l_read_number h_c_read_number h_k_read_number).binds fun _ _ _ _ _ _ us hl => match us, hl with | [_, _], _ => rfl,
    F_Formu__initu_ := fun_mk (st := s_Formu__initu_) h_l_Formu__initu_ h_c_Formu__initu_ h_k_Formu__initu_,
    b_Formu__initu_ := (fun_mk (st := s_Formu__initu_) h_l_Formu__initu_ h_c_Formu__initu_ h_k_Formu__initu_).binds fun _ _ _ _ _ _ us hl => match us, hl with | [_, _, _], _ => rfl,
    m_as_form := PySem.W.mg_of X G h_m_as_form,
    F_as_form := fun_mk (st := s_as_form) h_l_as_form h_c_as_form h_k_as_form,
    b_as_form := (fun_mk (st := s_as_form) h_l_as_form h_c_as_form h_k_as_form).binds fun _ _ _ _ _ _ us hl => match us, hl with | [_], _ => rfl,
    F_Formu__addu_ := fun_mk (st := s_Formu__addu_) h_l_Formu__addu_ h_c_Formu__addu_ h_k_Formu__addu_,
    b_Formu__addu_ := (fun_mk (st := s_Formu__addu_) h_l_Formu__addu_ h_c_Formu__addu_ h_k_Formu__addu_).binds fun _ _ _ _ _ _ us hl => match us, hl with | [_, _], _ => rfl,
    F_Formu__negu_ := fun_mk (st := s_Formu__negu_) h_l_Formu__negu_ h_c_Formu__negu_ h_k_Formu__negu_,
    b_Formu__negu_ := (fun_mk (st := s_Formu__negu_) h_l_Formu__negu_ h_c_Formu__negu_ h_k_Formu__negu_).binds fun _ _ _ _ _ _ us hl => match us, hl with | [_], _ => rfl,
    F_Formu__subu_ := fun_mk (st := s_Formu__subu_) h_l_Formu__subu_ h_c_Formu__subu_ h_k_Formu__subu_,
    b_Formu__subu_ := (fun_mk (st := s_Formu__subu_) h_l_Formu__subu_ h_c_Formu__subu_ h_k_Formu__subu_).binds fun _ _ _ _ _ _ us hl => match us, hl with | [_, _], _ => rfl,
    F_Formu__rsubu_ := fun_mk (st := s_Formu__rsubu_) h_l_Formu__rsubu_ h_c_Formu__rsubu_ h_k_Formu__rsubu_,
    b_Formu__rsubu_ := (fun_mk (st := s_Formu__rsubu_) h_l_Formu__rsubu_ h_c_Formu__rsubu_ h_k_Formu__rsubu_).binds fun _ _ _ _ _ _ us hl => match us, hl with | [_, _], _ => rfl,
    F_Formu__mulu_ := fun_mk (st := s_Formu__mulu_) h_l_Formu__mulu_ h_c_Formu__mulu_ h_k_Formu__mulu_,
    b_Formu__mulu_ := (fun_mk (st := s_Formu__mulu_) h_l_Formu__mulu_ h_c_Formu__mulu_ h_k_Formu__mulu_).binds fun _ _ _ _ _ _ us hl => match us, hl with | [_, _], _ => rfl,
    F_Formu__rmulu_ := fun_mk (st := s_Formu__rmulu_) h_l_Formu__rmulu_ h_c_Formu__rmulu_ h_k_Formu__rmulu_,
    b_Formu__rmulu_ := (fun_mk (st := s_Formu__rmulu_) h_l_Formu__rmulu_ h_c_Formu__rmulu_ h_k_Formu__rmulu_).binds fun _ _ _ _ _ _ us hl => match us, hl with | [_, _], _ => rfl,
    F_Formu__equ_ := fun_mk (st := s_Formu__equ_) h_l_Formu__equ_ h_c_Formu__equ_ h_k_Formu__equ_,
    b_Formu__equ_ := (fun_mk (st := s_Formu__equ_) h_l_Formu__equ_ h_c_Formu__equ_ h_k_Formu__equ_).binds fun _ _ _ _ _ _ us hl => match us, hl with | [_, _], _ => rfl,
    m_place_of := PySem.W.mg_of X G h_m_place_of,
    F_place_of := fun_mk (st := s_place_of) h_l_place_of h_c_place_of h_k_place_of,
    b_place_of := (fun_mk (st := s_place_of) h_l_place_of h_c_place_of h_k_place_of).binds fun _ _ _ _ _ _ us hl => match us, hl with | [_], _ => rfl,
    F_Formu__ltu_ := fun_mk (st := s_Formu__ltu_) h_l_Formu__ltu_ h_c_Formu__ltu_ h_k_Formu__ltu_,
    b_Formu__ltu_ := (fun_mk (st := s_Formu__ltu_) h_l_Formu__ltu_ h_c_Formu__ltu_ h_k_Formu__ltu_).binds fun _ _ _ _ _ _ us hl => match us, hl with | [_, _], _ => rfl,
    F_Formu__leu_ := fun_mk (st := s_Formu__leu_) h_l_Formu__leu_ h_c_Formu__leu_ h_k_Formu__leu_,
    b_Formu__leu_ := (fun_mk (st := s_Formu__leu_) h_l_Formu__leu_ h_c_Formu__leu_ h_k_Formu__leu_).binds fun _ _ _ _ _ _ us hl => match us, hl with | [_, _], _ => rfl,
    F_Formu__gtu_ := fun_mk (st := s_Formu__gtu_) h_l_Formu__gtu_ h_c_Formu__gtu_ h_k_Formu__gtu_,
    b_Formu__gtu_ := (fun_mk (st := s_Formu__gtu_) h_l_Formu__gtu_ h_c_Formu__gtu_ h_k_Formu__gtu_).binds fun _ _ _ _ _ _ us hl => match us, hl with | [_, _], _ => rfl,
    F_Formu__geu_ := fun_mk (st := s_Formu__geu_) h_l_Formu__geu_ h_c_Formu__geu_ h_k_Formu__geu_,
    b_Formu__geu_ := (fun_mk (st := s_Formu__geu_) h_l_Formu__geu_ h_c_Formu__geu_ h_k_Formu__geu_).binds fun _ _ _ _ _ _ us hl => match us, hl with | [_, _], _ => rfl,
    m_read_signed := PySem.W.mg_of X G h_m_read_signed,
    F_read_signed := fun_mk (st := s_read_signed) h_l_read_signed h_c_read_signed h_k_read_signed,
    b_read_signed := (fun_mk (st := s_read_signed) h_l_read_signed h_c_read_signed h_k_read_signed).binds fun _ _ _ _ _ _ us hl => match us, hl with | [_], _ => rfl,
    m_read_slope := PySem.W.mg_of X G h_m_read_slope,
    F_read_slope := fun_mk (st := s_read_slope) h_l_read_slope h_c_read_slope h_k_read_slope,
    b_read_slope := (fun_mk (st := s_read_slope) h_l_read_slope h_c_read_slope h_k_read_slope).binds fun _ _ _ _ _ _ us hl => match us, hl with | [_], _ => rfl,
    m_form_of_words := PySem.W.mg_of X G h_m_form_of_words,
    F_form_of_words := fun_mk (st := s_form_of_words) h_l_form_of_words h_c_form_of_words h_k_form_of_words,
    b_form_of_words := (fun_mk (st := s_form_of_words) h_l_form_of_words h_c_form_of_words h_k_form_of_words).binds fun _ _ _ _ _ _ us hl => match us, hl with | [_], _ => rfl,
    m_show_slope := PySem.W.mg_of X G h_m_show_slope,
    F_show_slope := fun_mk (st := s_show_slope) h_l_show_slope h_c_show_slope h_k_show_slope,
    b_show_slope := (fun_mk (st := s_show_slope) h_l_show_slope h_c_show_slope h_k_show_slope).binds fun _ _ _ _ _ _ us hl => match us, hl with | [_], _ => rfl,
    m_show_form := PySem.W.mg_of X G h_m_show_form,
    F_show_form := fun_mk (st := s_show_form) h_l_show_form h_c_show_form h_k_show_form,
    b_show_form := (fun_mk (st := s_show_form) h_l_show_form h_c_show_form h_k_show_form).binds fun _ _ _ _ _ _ us hl => match us, hl with | [_], _ => rfl,
    S_Form_read := ⟨h_rd_Form, h_ga_Form, ⟨_, _, h_a1_Form_read, h_a2_Form_read⟩, h_k_Form_read⟩,
    F_Form_read := fun_mk (st := s_Form_read) h_l_Form_read h_c_Form_read h_k_Form_read,
    b_Form_read := (fun_mk (st := s_Form_read) h_l_Form_read h_c_Form_read h_k_Form_read).binds fun _ _ _ _ _ _ us hl => match us, hl with | [_], _ => rfl,
    m_l_source := PySem.W.mg_of X G h_m_l_source,
    F_l_source := fun_mk (st := s_l_source) h_l_l_source h_c_l_source h_k_l_source,
    b_l_source := (fun_mk (st := s_l_source) h_l_l_source h_c_l_source h_k_l_source).binds fun _ _ _ _ _ _ us hl => match us, hl with | [_, _], _ => rfl,
    m_l_draw := PySem.W.mg_of X G h_m_l_draw,
    F_l_draw := fun_mk (st := s_l_draw) h_l_l_draw h_c_l_draw h_k_l_draw,
    b_l_draw := (fun_mk (st := s_l_draw) h_l_l_draw h_c_l_draw h_k_l_draw).binds fun _ _ _ _ _ _ us hl => match us, hl with | [_, _], _ => rfl,
    m_l_form := PySem.W.mg_of X G h_m_l_form,
    F_l_form := fun_mk (st := s_l_form) h_l_l_form h_c_l_form h_k_l_form,
    b_l_form := (fun_mk (st := s_l_form) h_l_l_form h_c_l_form h_k_l_form).binds fun _ _ _ _ _ _ us hl => match us, hl with | [_], _ => rfl,
    m_l_alike := PySem.W.mg_of X G h_m_l_alike,
    F_l_alike := fun_mk (st := s_l_alike) h_l_l_alike h_c_l_alike h_k_l_alike,
    b_l_alike := (fun_mk (st := s_l_alike) h_l_l_alike h_c_l_alike h_k_l_alike).binds fun _ _ _ _ _ _ us hl => match us, hl with | [_, _, _, _], _ => rfl,
    m_l_ordered := PySem.W.mg_of X G h_m_l_ordered,
    F_l_ordered := fun_mk (st := s_l_ordered) h_l_l_ordered h_c_l_ordered h_k_l_ordered,
    b_l_ordered := (fun_mk (st := s_l_ordered) h_l_l_ordered h_c_l_ordered h_k_l_ordered).binds fun _ _ _ _ _ _ us hl => match us, hl with | [_, _, _, _], _ => rfl,
    m_law := PySem.W.mg_of X G h_m_law,
    F_law := fun_mk (st := s_law) h_l_law h_c_law h_k_law,
    b_law := (fun_mk (st := s_law) h_l_law h_c_law h_k_law).binds fun _ _ _ _ _ _ us hl => match us, hl with | [_], _ => rfl,
    O_Formu__addu__S := ⟨h_sf_Form, h_bn_Formu__addu_, h_i_Formu__addu_⟩,
    O_Formu__addu__T := ⟨⟨h_sf_Form, h_bn_Formu__addu_, h_i_Formu__addu_⟩, ⟨_, h_rc_Formu__addu_, h_rp_Formu__addu_⟩, ⟨_, h_fo_Formu__addu_⟩, ⟨_, h_ro_Formu__addu_⟩, h_su_Form⟩,
    O_Formu__negu__1 := ⟨h_a_Formu__negu_, h_i_Formu__negu_⟩,
    O_Formu__subu__S := ⟨h_sf_Form, h_bn_Formu__subu_, h_i_Formu__subu_⟩,
    O_Formu__subu__T := ⟨⟨h_sf_Form, h_bn_Formu__subu_, h_i_Formu__subu_⟩, ⟨_, h_rc_Formu__subu_, h_rp_Formu__subu_⟩, ⟨_, h_fo_Formu__subu_⟩, ⟨_, h_ro_Formu__subu_⟩, h_su_Form⟩,
    O_Formu__rsubu__R := ⟨h_sf_Form, ⟨_, h_l0_Formu__rsubu_⟩, h_br_Formu__rsubu_, h_i_Formu__rsubu_, h_sv_Form⟩,
    O_Formu__mulu__S := ⟨h_sf_Form, h_bn_Formu__mulu_, h_i_Formu__mulu_⟩,
    O_Formu__mulu__T := ⟨⟨h_sf_Form, h_bn_Formu__mulu_, h_i_Formu__mulu_⟩, ⟨_, h_rc_Formu__mulu_, h_rp_Formu__mulu_⟩, ⟨_, h_fo_Formu__mulu_⟩, ⟨_, h_ro_Formu__mulu_⟩, h_su_Form⟩,
    O_Formu__rmulu__R := ⟨h_sf_Form, ⟨_, h_l0_Formu__rmulu_⟩, h_br_Formu__rmulu_, h_i_Formu__rmulu_, h_sv_Form⟩,
    O_Formu__equ__1 := ⟨h_a_Formu__equ_, h_i_Formu__equ_⟩,
    O_Formu__equ__N := ⟨h_ne_Formu__equ_, h_a_Formu__equ_, h_i_Formu__equ_, h_ob_Formu__equ_⟩,
    O_Formu__ltu__1 := ⟨h_a_Formu__ltu_, h_i_Formu__ltu_⟩,
    O_Formu__leu__1 := ⟨h_a_Formu__leu_, h_i_Formu__leu_⟩,
    O_Formu__gtu__1 := ⟨h_a_Formu__gtu_, h_i_Formu__gtu_⟩,
    O_Formu__geu__1 := ⟨h_a_Formu__geu_, h_i_Formu__geu_⟩,
    nf_Form_Form := h_nf_Form_Form,
    nf_int_Form := h_nf_int_Form }
  exact ⟨_, fun s v => .of_eq rfl, fun base _ _ => ok_law T⟩
theorem walk {l : PySem.W.OpenLaw} {q : Program} {loose : List Str} {XP : (Str → Option Value) → Heap → Prop} {YP : World → Heap → Prop} {d : DefRec} {K : Params → PySem.W.Frag} (hn : l.most = some 63) (hdf : d.params.defaults = [])
    (hY : ∀ (w : World) (h : Heap), YP w h → (K w.params).In h)
    (F : ∀ (w : World) (mg : Str → Option Value) (fa : Addr) (h : Heap), (K w.params).In h → h.Ns mainGlobals mg → mg d.name = some (.ref fa) →
      ∃ fd : FuncData, (∀ (s : Shared) (u : Value), BindsTo s fd ⟨[u], []⟩ [("_law_script", u)]) ∧ ∀ base : Heap, (K w.params).In base → base.Ns mainGlobals mg → FnOk l.prog w (K w.params) mg base CX0 8 fa fd ["_law_script"] (sp_law (K w.params))) :
    PySem.W.WalkO q loose XP YP l.row.toRowW d [] (fun f vs => PySem.call f vs) :=
  L2.walk_of (n := 63) (k := 8) (x := "_law_script") (CX := fun _ => CX0) (sp := fun w => sp_law (K w.params)) hn (by decide) hdf ⟨rfl, by decide, by decide⟩ hY F (fun _ _ a ns hl _ hS => ⟨a, ns, rfl, hS, hl, fun _ => rfl⟩) fun _ _ _ _ _ z => z
end Pk07
open PySem PySem.W PyProof.Rows
set_option maxRecDepth 100000 in
set_option maxHeartbeats 0 in
theorem PySem.Challenge.cw_ringindexes_k07_whole_forms_and_signs_holds : PySem.Challenge.rw_ringindexes_k07_whole_forms_and_signs.Holds := by
  w_on; o_law; k_head; (case hw => w_witness2)
  k_fill
  refine Pk07.walk (l := PySem.Challenge.rw_ringindexes_k07_whole_forms_and_signs) rfl rfl (fun w h Y => PySem.W.kIn_of Y) ?F
  case F =>
    intro w mg fa h KX G hmg
    refine' Pk07.all_mk KX G hmg ?h_n_abs ?h_n_bool ?h_n_int ?h_n_isinstance ?h_n_len ?h_n_max ?h_n_min ?h_n_range ?h_n_str ?h_m_GREATEST_SIZE ?h_m_MOST_DIGITS ?h_m_Form ?h_n_Form_slope ?h_n_Form_base ?h_m_is_whole ?h_m_read_number ?h_m_as_form ?h_m_place_of ?h_m_read_signed ?h_m_read_slope ?h_m_form_of_words ?h_m_show_slope ?h_m_show_form ?h_m_l_source ?h_m_l_draw ?h_m_l_form ?h_m_l_alike ?h_m_l_ordered ?h_m_law ?h_in_Form ?h_a1_Form_read ?h_bn_Formu__addu_ ?h_a_Formu__negu_ ?h_bn_Formu__subu_ ?h_br_Formu__rsubu_ ?h_bn_Formu__mulu_ ?h_br_Formu__rmulu_ ?h_a_Formu__equ_ ?h_a_Formu__ltu_ ?h_a_Formu__leu_ ?h_a_Formu__gtu_ ?h_a_Formu__geu_ ?h_a2_Form_read ?h_l_is_whole ?h_l_read_number ?h_l_Formu__initu_ ?h_l_as_form ?h_l_Formu__addu_ ?h_l_Formu__negu_ ?h_l_Formu__subu_ ?h_l_Formu__rsubu_ ?h_l_Formu__mulu_ ?h_l_Formu__rmulu_ ?h_l_Formu__equ_ ?h_l_place_of ?h_l_Formu__ltu_ ?h_l_Formu__leu_ ?h_l_Formu__gtu_ ?h_l_Formu__geu_ ?h_l_read_signed ?h_l_read_slope ?h_l_form_of_words ?h_l_show_slope ?h_l_show_form ?h_l_Form_read ?h_l_l_source ?h_l_l_draw ?h_l_l_form ?h_l_l_alike ?h_l_l_ordered ?h_l_law ?h_pg_Form ?h_hd_Form ?h_po_Form ?h_sa_Form ?h_mk_Form ?h_ii_Form ?h_kp_Form ?h_ha_Form ?h_mo_Form ?h_hn_Form ?h_htk_Form ?h_kt_Form_Form ?h_kt_int_Form ?h_c_is_whole ?h_k_is_whole ?h_c_read_number ?h_k_read_number ?h_c_Formu__initu_ ?h_k_Formu__initu_ ?h_c_as_form ?h_k_as_form ?h_c_Formu__addu_ ?h_k_Formu__addu_ ?h_c_Formu__negu_ ?h_k_Formu__negu_ ?h_c_Formu__subu_ ?h_k_Formu__subu_ ?h_c_Formu__rsubu_ ?h_k_Formu__rsubu_ ?h_c_Formu__mulu_ ?h_k_Formu__mulu_ ?h_c_Formu__rmulu_ ?h_k_Formu__rmulu_ ?h_c_Formu__equ_ ?h_k_Formu__equ_ ?h_c_place_of ?h_k_place_of ?h_c_Formu__ltu_ ?h_k_Formu__ltu_ ?h_c_Formu__leu_ ?h_k_Formu__leu_ ?h_c_Formu__gtu_ ?h_k_Formu__gtu_ ?h_c_Formu__geu_ ?h_k_Formu__geu_ ?h_c_read_signed ?h_k_read_signed ?h_c_read_slope ?h_k_read_slope ?h_c_form_of_words ?h_k_form_of_words ?h_c_show_slope ?h_k_show_slope ?h_c_show_form ?h_k_show_form ?h_rd_Form ?h_ga_Form ?h_c_Form_read ?h_k_Form_read ?h_c_l_source ?h_k_l_source ?h_c_l_draw ?h_k_l_draw ?h_c_l_form ?h_k_l_form ?h_c_l_alike ?h_k_l_alike ?h_c_l_ordered ?h_k_l_ordered ?h_c_law ?h_k_law ?h_sf_Form ?h_i_Formu__addu_ ?h_rc_Formu__addu_ ?h_rp_Formu__addu_ ?h_fo_Formu__addu_ ?h_ro_Formu__addu_ ?h_su_Form ?h_i_Formu__negu_ ?h_i_Formu__subu_ ?h_rc_Formu__subu_ ?h_rp_Formu__subu_ ?h_fo_Formu__subu_ ?h_ro_Formu__subu_ ?h_l0_Formu__rsubu_ ?h_i_Formu__rsubu_ ?h_sv_Form ?h_i_Formu__mulu_ ?h_rc_Formu__mulu_ ?h_rp_Formu__mulu_ ?h_fo_Formu__mulu_ ?h_ro_Formu__mulu_ ?h_l0_Formu__rmulu_ ?h_i_Formu__rmulu_ ?h_i_Formu__equ_ ?h_ne_Formu__equ_ ?h_ob_Formu__equ_ ?h_i_Formu__ltu_ ?h_i_Formu__leu_ ?h_i_Formu__gtu_ ?h_i_Formu__geu_ ?h_nf_Form_Form ?h_nf_int_Form
    (case h_n_abs => k_is)
    (case h_n_bool => k_is)
    (case h_n_int => k_is)
    (case h_n_isinstance => k_is)
    (case h_n_len => k_is)
    (case h_n_max => k_is)
    (case h_n_min => k_is)
    (case h_n_range => k_is)
    (case h_n_str => k_is)
    (case h_m_GREATEST_SIZE => k_is)
    (case h_m_MOST_DIGITS => k_is)
    (case h_m_Form => k_is)
    (case h_n_Form_slope => k_is)
    (case h_n_Form_base => k_is)
    (case h_m_is_whole => k_is)
    (case h_m_read_number => k_is)
    (case h_m_as_form => k_is)
    (case h_m_place_of => k_is)
    (case h_m_read_signed => k_is)
    (case h_m_read_slope => k_is)
    (case h_m_form_of_words => k_is)
    (case h_m_show_slope => k_is)
    (case h_m_show_form => k_is)
    (case h_m_l_source => k_is)
    (case h_m_l_draw => k_is)
    (case h_m_l_form => k_is)
    (case h_m_l_alike => k_is)
    (case h_m_l_ordered => k_is)
    (case h_m_law => k_is)
    (case h_in_Form => k_is)
    (case h_a1_Form_read => k_is)
    (case h_bn_Formu__addu_ => k_is)
    (case h_a_Formu__negu_ => k_is)
    (case h_bn_Formu__subu_ => k_is)
    (case h_br_Formu__rsubu_ => k_is)
    (case h_bn_Formu__mulu_ => k_is)
    (case h_br_Formu__rmulu_ => k_is)
    (case h_a_Formu__equ_ => k_is)
    (case h_a_Formu__ltu_ => k_is)
    (case h_a_Formu__leu_ => k_is)
    (case h_a_Formu__gtu_ => k_is)
    (case h_a_Formu__geu_ => k_is)
    (case h_a2_Form_read => k_is)
    (case h_l_is_whole => k_is)
    (case h_l_read_number => k_is)
    (case h_l_Formu__initu_ => k_is)
    (case h_l_as_form => k_is)
    (case h_l_Formu__addu_ => k_is)
    (case h_l_Formu__negu_ => k_is)
    (case h_l_Formu__subu_ => k_is)
    (case h_l_Formu__rsubu_ => k_is)
    (case h_l_Formu__mulu_ => k_is)
    (case h_l_Formu__rmulu_ => k_is)
    (case h_l_Formu__equ_ => k_is)
    (case h_l_place_of => k_is)
    (case h_l_Formu__ltu_ => k_is)
    (case h_l_Formu__leu_ => k_is)
    (case h_l_Formu__gtu_ => k_is)
    (case h_l_Formu__geu_ => k_is)
    (case h_l_read_signed => k_is)
    (case h_l_read_slope => k_is)
    (case h_l_form_of_words => k_is)
    (case h_l_show_slope => k_is)
    (case h_l_show_form => k_is)
    (case h_l_Form_read => k_is)
    (case h_l_l_source => k_is)
    (case h_l_l_draw => k_is)
    (case h_l_l_form => k_is)
    (case h_l_l_alike => k_is)
    (case h_l_l_ordered => k_is)
    (case h_l_law => k_is)
    (case h_pg_Form => k_is)
    (case h_hd_Form => k_is)
    (case h_po_Form => k_is)
    (case h_sa_Form => k_is)
    (case h_mk_Form => k_is)
    (case h_ii_Form => k_is)
    (case h_kp_Form => k_is)
    (case h_ha_Form => k_is)
    (case h_mo_Form => k_is)
    (case h_hn_Form => k_is)
    (case h_htk_Form => k_is)
    (case h_kt_Form_Form => kit_is)
    (case h_kt_int_Form => kit_is)
    (case h_c_is_whole => k_is)
    (case h_k_is_whole => k_is)
    (case h_c_read_number => k_is)
    (case h_k_read_number => k_is)
    (case h_c_Formu__initu_ => k_is)
    (case h_k_Formu__initu_ => k_is)
    (case h_c_as_form => k_is)
    (case h_k_as_form => k_is)
    (case h_c_Formu__addu_ => k_is)
    (case h_k_Formu__addu_ => k_is)
    (case h_c_Formu__negu_ => k_is)
    (case h_k_Formu__negu_ => k_is)
    (case h_c_Formu__subu_ => k_is)
    (case h_k_Formu__subu_ => k_is)
    (case h_c_Formu__rsubu_ => k_is)
    (case h_k_Formu__rsubu_ => k_is)
    (case h_c_Formu__mulu_ => k_is)
    (case h_k_Formu__mulu_ => k_is)
    (case h_c_Formu__rmulu_ => k_is)
    (case h_k_Formu__rmulu_ => k_is)
    (case h_c_Formu__equ_ => k_is)
    (case h_k_Formu__equ_ => k_is)
    (case h_c_place_of => k_is)
    (case h_k_place_of => k_is)
    (case h_c_Formu__ltu_ => k_is)
    (case h_k_Formu__ltu_ => k_is)
    (case h_c_Formu__leu_ => k_is)
    (case h_k_Formu__leu_ => k_is)
    (case h_c_Formu__gtu_ => k_is)
    (case h_k_Formu__gtu_ => k_is)
    (case h_c_Formu__geu_ => k_is)
    (case h_k_Formu__geu_ => k_is)
    (case h_c_read_signed => k_is)
    (case h_k_read_signed => k_is)
    (case h_c_read_slope => k_is)
    (case h_k_read_slope => k_is)
    (case h_c_form_of_words => k_is)
    (case h_k_form_of_words => k_is)
    (case h_c_show_slope => k_is)
    (case h_k_show_slope => k_is)
    (case h_c_show_form => k_is)
    (case h_k_show_form => k_is)
    (case h_rd_Form => k_is)
    (case h_ga_Form => k_is)
    (case h_c_Form_read => k_is)
    (case h_k_Form_read => k_is)
    (case h_c_l_source => k_is)
    (case h_k_l_source => k_is)
    (case h_c_l_draw => k_is)
    (case h_k_l_draw => k_is)
    (case h_c_l_form => k_is)
    (case h_k_l_form => k_is)
    (case h_c_l_alike => k_is)
    (case h_k_l_alike => k_is)
    (case h_c_l_ordered => k_is)
    (case h_k_l_ordered => k_is)
    (case h_c_law => k_is)
    (case h_k_law => k_is)
    (case h_sf_Form => k_is)
    (case h_i_Formu__addu_ => k_is)
    (case h_rc_Formu__addu_ => k_is)
    (case h_rp_Formu__addu_ => first | exact .inl rfl | exact .inr ⟨_, rfl⟩)
    (case h_fo_Formu__addu_ => k_is)
    (case h_ro_Formu__addu_ => k_is)
    (case h_su_Form => k_is)
    (case h_i_Formu__negu_ => k_is)
    (case h_i_Formu__subu_ => k_is)
    (case h_rc_Formu__subu_ => k_is)
    (case h_rp_Formu__subu_ => first | exact .inl rfl | exact .inr ⟨_, rfl⟩)
    (case h_fo_Formu__subu_ => k_is)
    (case h_ro_Formu__subu_ => k_is)
    (case h_l0_Formu__rsubu_ => k_is)
    (case h_i_Formu__rsubu_ => k_is)
    (case h_sv_Form => k_is)
    (case h_i_Formu__mulu_ => k_is)
    (case h_rc_Formu__mulu_ => k_is)
    (case h_rp_Formu__mulu_ => first | exact .inl rfl | exact .inr ⟨_, rfl⟩)
    (case h_fo_Formu__mulu_ => k_is)
    (case h_ro_Formu__mulu_ => k_is)
    (case h_l0_Formu__rmulu_ => k_is)
    (case h_i_Formu__rmulu_ => k_is)
    (case h_i_Formu__equ_ => k_is)
    (case h_ne_Formu__equ_ => k_is)
    (case h_ob_Formu__equ_ => k_is)
    (case h_i_Formu__ltu_ => k_is)
    (case h_i_Formu__leu_ => k_is)
    (case h_i_Formu__gtu_ => k_is)
    (case h_i_Formu__geu_ => k_is)
    (case h_nf_Form_Form => k_is)
    (case h_nf_int_Form => k_is)
